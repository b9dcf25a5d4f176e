/-
  Package cost and the document's own costs: what each call does.
-/
import Derived.Test.YtmbeelakkiodaaaRows
import Derived.Test.YtmbeelakkiodaaaCostM
import Derived.Test.YtmbeelakkiodaaaWgt
import Derived.WalkKit
import Derived.WalkSpells
import Derived.WalkLawsBesides
namespace Go.Proofs.Ytmbeelakkiodaaa
open Go.RowKit

set_option maxHeartbeats 400000 in
theorem held_any (a : Int) (w : World) (h0 : -9223372036854775808 ≤ a) (h1 : a ≤ 9223372036854775807) :
    Calls Try.prog 22 #[.int .i64 a] w fun e w' => e = .returned (.int .i64 (hld a)) ∧ w = w' := by
  go_enter Try.func22, Try.ntmps22
  go_wp2
  all_goals
    go_ret
    refine ⟨ret_int ?_, rfl⟩
    unfold hld
    split at * <;> (try split) <;> omega

set_option maxHeartbeats 400000 in
theorem rheld_any (a : Int) (w : World) (h0 : -9223372036854775808 ≤ a) (h1 : a ≤ 9223372036854775807) :
    Calls Try.prog 16 #[.int .i64 a] w fun e w' => e = .returned (.int .i64 (hld a)) ∧ w = w' := by
  go_enter Try.func16, Try.ntmps16
  go_wp2
  all_goals
    go_ret
    refine ⟨ret_int ?_, rfl⟩
    unfold hld
    split <;> (try split) <;> omega

end Go.Proofs.Ytmbeelakkiodaaa
