/-
  The law's own To: a table as the program's.
-/
import Derived.Test.YtboimdgldjimpaaDoorTurnE
import Derived.Deep.RegionLaw
namespace Go.Proofs.YtboimdgldjimpaaDoor
open Go.RowKit

/-- What a call answers that tells a table. -/
def TPost (I O : Int) (l : List Int) (w : World) (ev : Ending) (w' : World) : Prop := ∃ tv, ev = .returned tv ∧ TabV w' tv I O l ∧ Below w.heap.size w w'

set_option maxHeartbeats 1000000 in
theorem of_any (I O : Int) (v : Value) (l : List Int) (w : World) (hv : I64s w v l) :
    Calls Tryd.prog 21 #[.agg #[.int .i64 I, .int .i64 O, v]] w (TPost I O l w) := by
  obtain ⟨q, c, rfl⟩ := hv.shape
  have HV := Lib.hid hv
  clear hv
  go_enter Tryd.func21, Tryd.ntmps21
  go_wp2
  exact bodyPost_ret (v := .agg #[.int .i64 I, .int .i64 O, .slice q l.length c]) (by simp [results, Tryd.results21, go_sem]) rfl ⟨_, rfl, ⟨_, rfl, HV.out.below (below_alloc2 _ _)⟩, below_alloc2 _ _⟩

/-- An append whose run is known, as one step of a region that draws. -/
theorem step_append_run {P : Program} {ops : Array Oper} {o : Oper} {a : Act} {w w' : World} {K : Act → World → Prop} {Q : Exit → Act → World → Prop} {E : Prop} (hg : o.guard = none) (s x : Operand) (t : TypeId) (ho : o.op = .call { callee := .builtin .append, args := #[s, x], argTypes := #[t, t] })
    (v sv v' : Value) (hs : a.eval s = v) (hx : a.eval x = sv) (hr : (Builtin.append_ #[t, t] o.type #[v, sv]).run P w = .ok v' w') (hK : K (a.put o.dst v') w') :
    if Region.wanted o (yielded ops a.tmps) = true then Oper.wp P o a w K Q else E := by
  have hw : Region.wanted o (yielded ops a.tmps) = true := by simp [Region.wanted, hg]
  rw [if_pos hw]
  unfold Oper.wp execOp
  simp only [ho, resolve, invoke, builtin, Sem.run_bind, Sem.run_pure, Result.andThen_ok, List.map_toArray, List.map_cons, List.map_nil, hs, hx, hr]
  exact hK

/-- The world ahead of To's copy. -/
def toWorld (I O : Int) (u : Value) (w : World) : World := ((w.alloc (.cells #[.int .i64 I, .int .i64 O, u] 24)).alloc (.cells #[.int .i64 0, .int .i64 0, .slice none 0 0] 34)).drew

set_option maxRecDepth 100000 in
set_option maxHeartbeats 4000000 in
theorem to_own (I O : Int) (u : Value) (l : List Int) (w : World) (hs : l.length ≤ 1000) (hu : I64s w u l) :
    Calls Tryd.prog 12 #[.agg #[.int .i64 I, .int .i64 O, u]] w (fun ev w' => ∃ tv, ev = .returned tv ∧ TabO w' w.heap.size tv I O l ∧ Below w.heap.size w w') := by
  obtain ⟨q, cu, rfl⟩ := hu.shape
  have b3 : Below w.heap.size w (toWorld I O (.slice q l.length cu) w) := (below_alloc2 _ _).drew
  have z3 : (toWorld I O (.slice q l.length cu) w).heap.size = w.heap.size + 1 + 1 := by simp [toWorld]
  obtain ⟨v', w', hr, hown, hb⟩ := copy_own (toWorld I O (.slice q l.length cu) w) _ l (hu.below b3) (by omega) _ z3
  have hcells : ∀ b o v, b < w.heap.size + 1 + 1 → (toWorld I O (.slice q l.length cu) w).cell? ⟨b, o, none⟩ = some v → w'.cell? ⟨b, o, none⟩ = some v := fun b o v h1 h2 => (hb.cell (by rw [z3]; exact h1)).trans h2
  have hfroz : ∀ b o, b < w.heap.size + 1 + 1 → w'.frozen? ⟨b, o, none⟩ = (toWorld I O (.slice q l.length cu) w).frozen? ⟨b, o, none⟩ := fun b o h1 => hb.frozen (by rw [z3]; exact h1)
  have a0 := hcells w.heap.size 0 (.int .i64 I) (by omega) (by unfold toWorld; go_simp)
  have a1 := hcells w.heap.size 1 (.int .i64 O) (by omega) (by unfold toWorld; go_simp)
  have r0 := hcells (w.heap.size + 1) 0 (.int .i64 0) (by omega) (by unfold toWorld; go_simp)
  have r1 := hcells (w.heap.size + 1) 1 (.int .i64 0) (by omega) (by unfold toWorld; go_simp)
  have r2 := hcells (w.heap.size + 1) 2 (.slice none 0 0) (by omega) (by unfold toWorld; go_simp)
  have f0 := (hfroz (w.heap.size + 1) 0 (by omega)).trans (show _ = false by unfold toWorld; go_simp)
  have f1 := (hfroz (w.heap.size + 1) 1 (by omega)).trans (show _ = false by unfold toWorld; go_simp)
  have f2 := (hfroz (w.heap.size + 1) 2 (by omega)).trans (show _ = false by unfold toWorld; go_simp)
  have hv' : ∃ g cap, v' = .slice g l.length cap := by
    rcases hown.2 with ⟨rfl, hz⟩ | ⟨g, cap, cur, e, _⟩
    · exact ⟨none, 0, by rw [hz]⟩
    · exact ⟨_, cap, e⟩
  obtain ⟨g, cap, rfl⟩ := hv'
  have HR := Lib.hid hr
  have HO := Lib.hid hown
  have HB : Hid (Below w.heap.size w w') := Lib.hid (b3.trans (hb.mono (by rw [z3]; omega)))
  have h2 : ∀ {W : World} (o : Nat) (k : Nat) (v : Value), k < w.heap.size + 1 + 1 → W.ownsRow (toWorld I O (.slice q l.length cu) w).heap.size 2 1 (.slice g l.length cap) l.length (l.map (Value.int .i64)) → (W.setCell ⟨k, o, none⟩ v).ownsRow (toWorld I O (.slice q l.length cu) w).heap.size 2 1 (.slice g l.length cap) l.length (l.map (Value.int .i64)) := fun o k v hk h => ownsRow_setCell_below h (by rw [z3]; exact hk) v
  have HF := Lib.hid (owns_base (h2 2 (w.heap.size + 1) (.slice g l.length cap) (by omega) (h2 1 (w.heap.size + 1) (.int .i64 O) (by omega) (h2 0 (w.heap.size + 1) (.int .i64 I) (by omega) hown))) (show w.heap.size ≤ _ by rw [z3]; omega))
  clear hu hr hown hb hcells hfroz b3 z3 h2 HO
  go_enter Tryd.func12, Tryd.ntmps12
  go_wp2
  go_region_law (refine step_append_run rfl _ _ 22 rfl _ _ _ rfl rfl HR.out ?_)
  all_goals
    go_wp2
    refine bodyPost_ret (v := .agg #[.int .i64 I, .int .i64 O, .slice g l.length cap]) (by simp [results, Tryd.results12, go_sem]; go_simp) rfl ⟨_, rfl, ⟨_, rfl, HF.out⟩, ?_⟩
    exact ((HB.out.setCell (by simp only []; omega) _).setCell (by simp only []; omega) _).setCell (by simp only []; omega) _

theorem to_any (I O : Int) (u : Value) (l : List Int) (w : World) (hs : l.length ≤ 1000) (hu : I64s w u l) :
    Calls Tryd.prog 12 #[.agg #[.int .i64 I, .int .i64 O, u]] w (TPost I O l w) :=
  (to_own I O u l w hs hu).mono fun _ _ ⟨tv, h1, h2, h3⟩ => ⟨tv, h1, h2.tab (by omega), h3⟩

end Go.Proofs.YtboimdgldjimpaaDoor
