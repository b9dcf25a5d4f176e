/-
  The program's own nets: what it costs to turn; walks, and what they cost.
-/
import Derived.Test.YtlfihaajnjeaeaaPNetC
import Derived.Test.YtlfihaajnjeaeaaRNetB
import Derived.Test.YtlfihaajnjeaeaaA2
namespace Go.Proofs.Ytlfihaajnjeaeaa
open Go.RowKit

theorem turn_place {n : NetD} {ka kb : Nat} (ha : ka < n.a.length) (hb : kb < n.a.length) (he : n.a[ka].2.1 = n.a[kb].1) {kv kt : Nat} (hkv : kv < n.v.length) (ev : n.a[ka].2.1 = kv) (hkt : kt < n.t.length) (et : n.v[kv].2.2 = kt) :
    n.turn ka kb = turnAt n.t[kt].1 n.t[kt].2.1 n.t[kt].2.2 (placeL (insL n.a kv) ka) (placeL (outsL n.a kv) kb) := by
  unfold NetD.turn
  rw [there_at ha, there_at hb, NetGood.arc_at ka ha, NetGood.arc_at kb hb, if_neg (by simp), if_neg (by simp), if_pos he, ev, NetGood.vert_at kv hkv, et, NetGood.tab_at kt hkt]
theorem nat_of {a : Int} {k : Nat} (h0 : 0 ≤ a) (h1 : a < k) : ∃ j : Nat, a = j ∧ j < k := ⟨a.toNat, by omega, by omega⟩
theorem walk_nil (n : NetD) : n.walk [] = false ∧ n.cost [] = 1152921504606846976 := by
  have : n.walk [] = false := by simp [NetD.walk]
  exact ⟨this, by unfold NetD.cost; rw [if_neg (by rw [this]; simp)]⟩
/-- A number that may not stand there. -/
theorem walk_bad {n : NetD} {l : List Int} {k : Nat} (h : n.stepOK l k = false) (hk : k < l.length) : n.walk l = false ∧ n.cost l = 1152921504606846976 := by
  have : n.walk l = false := by unfold NetD.walk; rw [NetD.walkTo_not h hk]; rfl
  exact ⟨this, by unfold NetD.cost; rw [if_neg (by rw [this]; simp)]⟩
theorem walk_good {n : NetD} {l : List Int} (h : n.walkTo l l.length = true) (hl : 0 < l.length) : n.walk l = true ∧ n.cost l = n.costTo l l.length := by
  have : n.walk l = true := by unfold NetD.walk; rw [h]; simp [hl]
  exact ⟨this, by unfold NetD.cost; rw [if_pos this]⟩

theorem getD_at {l : List Int} {k : Nat} (h : k < l.length) : l.getD k 0 = l[k] := by rw [List.getD_eq_getElem?_getD, List.getElem?_eq_getElem h, Option.getD_some]

end Go.Proofs.Ytlfihaajnjeaeaa
