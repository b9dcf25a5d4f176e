/-
  What may be a weight: the program's word and the document's.
-/
import Derived.Test.YtboimdgldjimpaaDoorProg
import Derived.Test.YtboimdgldjimpaaDoorCostM
import Derived.WalkKit
import Derived.WalkSpells
import Derived.WalkLawsBesides
namespace Go.Proofs.YtboimdgldjimpaaDoor
open Go.RowKit

set_option maxHeartbeats 400000 in
theorem weight_any (a : Int) (w : World) (h0 : -9223372036854775808 ≤ a) (h1 : a ≤ 9223372036854775807) :
    Calls Tryd.prog 32 #[.int .i64 a] w fun e w' => e = .returned (.bool (wgt a)) ∧ w = w' := by
  go_enter Tryd.func32, Tryd.ntmps32
  go_wp2
  all_goals
    go_ret
    refine ⟨ret_bool ?_, rfl⟩
    rw [Bool.eq_iff_iff]
    simp [wgt]
    try omega

set_option maxHeartbeats 400000 in
theorem rweight_any (a : Int) (w : World) (h0 : -9223372036854775808 ≤ a) (h1 : a ≤ 9223372036854775807) :
    Calls Tryd.prog 26 #[.int .i64 a] w fun e w' => e = .returned (.bool (wgt a)) ∧ w = w' := by
  go_enter Tryd.func26, Tryd.ntmps26
  go_wp2
  all_goals
    go_ret
    refine ⟨ret_bool ?_, rfl⟩
    rw [Bool.eq_iff_iff]
    simp [wgt]
    try omega

end Go.Proofs.YtboimdgldjimpaaDoor
