/-
  errors.As, as the program's own checks ask it: a Fault as a Fault; an Errno as no Fault; an Errno as an Errno. Go's own text of errors.As and errors.as is walked.
-/
import Derived.Test.YtgihaakgadmidaaGreatA2
import Derived.LaidEql
import Derived.Stop.Asserts
import Derived.RowKitTokens
import Derived.Lib.IfaceEq
import Derived.Lib.Hide
import Derived.RegionTactic
import Derived.StillTactics
import Derived.WalkSpells
import Derived.WalkLawsBesides
namespace Go.Proofs.YtgihaakgadmidaaGreat
open Go.RowKit Go.Extern.Stop Go.Stop Go.Extern

/-! ### closed facts on the model's entries for internal/reflectlite -/
/-! ### the same at an Errno's own type -/
/-! ### what the assertions of errors.Is and errors.As find -/
end Go.Proofs.YtgihaakgadmidaaGreat

/-
  errors.As at a Fault that is one, and at an Errno that is none.
-/
namespace Go.Proofs.YtgihaakgadmidaaGreat
open Go.RowKit Go.Extern.Stop Go.Stop Go.Extern

end Go.Proofs.YtgihaakgadmidaaGreat

/-
  errors.Is: a chain of one or two Faults round an Errno, asked for just that Errno.
-/
namespace Go.Proofs.YtgihaakgadmidaaGreat
open Go.RowKit Go.Extern.Stop Go.Stop Go.Extern

end Go.Proofs.YtgihaakgadmidaaGreat

/-
  The law's own 'Tells': an error's chain, held against the document's word of it.
-/
namespace Go.Proofs.YtgihaakgadmidaaGreat
open Go.RowKit

theorem ErrV.head {w : World} {v : Value} {ps : List (ByteArray × Int)} {a : Int} (h : ErrV w v ps a) (hl : 1 ≤ ps.length) : ∃ b, v = .iface 156 (.pointer (some ⟨b, 0, none⟩)) := by
  match ps, h, hl with
  | (_, _) :: _, ⟨b, u, hv, _⟩, _ => exact ⟨b, hv⟩
theorem ErrV.at {w : World} {v : Value} {ps : List (ByteArray × Int)} {a : Int} {k : Nat} (h : ErrV w v (ps.drop k) a) (hk : k < ps.length) :
    ∃ (b : Nat) (u : Value), v = .iface 156 (.pointer (some ⟨b, 0, none⟩)) ∧ w.cell? ⟨b, 0, none⟩ = some (.string ps[k].1) ∧ w.cell? ⟨b, 1, none⟩ = some (.int .i64 ps[k].2) ∧ w.cell? ⟨b, 2, none⟩ = some u ∧ ErrV w u (ps.drop (k + 1)) a := by
  rw [List.drop_eq_getElem_cons hk] at h
  exact h

end Go.Proofs.YtgihaakgadmidaaGreat
