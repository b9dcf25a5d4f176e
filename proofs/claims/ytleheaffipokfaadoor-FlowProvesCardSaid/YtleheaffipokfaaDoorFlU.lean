/-
  Is it a flow, and of what value: the program's balance and value.
-/
import Derived.Test.YtleheaffipokfaaDoorFlN
import Derived.Test.YtleheaffipokfaaDoorFlS
import Derived.Laws.MakeOwn
import Derived.WalkSmall
namespace Go.Proofs.YtleheaffipokfaaDoor
open Go.RowKit

/-- A row of one's own that is filled in place. -/
structure RowM (w : World) (g : Nat) (l : List Int) (wr : World) : Prop where
  k : Blk wr g (numI l) 3
  b : Below w.heap.size w wr
  lo : w.heap.size ≤ g
section
variable {w wr wr' : World} {b : Nat} {l : List Int}
theorem RowM.old (h : RowM w b l wr) (hb : Below wr.heap.size wr wr') : RowM w b l wr' := ⟨h.k.keep hb, bOn6 h.b hb, h.lo⟩
theorem RowM.set (h : RowM w b l wr) (i : Nat) (x : Int) : RowM w b (l.set i x) (wr.setCell ⟨b, i, none⟩ (.int .i64 x)) := by
  refine ⟨?_, h.b.setCell h.lo _, h.lo⟩
  have := h.k.set i (.int .i64 x)
  rwa [numI_set] at this
theorem RowM.at (h : RowM w b l wr) {i : Nat} (hi : i < l.length) : wr.cell? ⟨b, i, none⟩ = some (.int .i64 l[i]) ∧ wr.frozen? ⟨b, i, none⟩ = false ∧ b < wr.heap.size := ⟨h.k.cell i (numI_at hi), h.k.free i, h.k.lt⟩
end
/-- What balance answers. -/
def BalPost (w : World) (N : Nat) (E : Edg) (f : List Int) (e : Ending) (w' : World) : Prop :=
  (okTo E f E.length ∧ ∃ b, e = .returned (.tuple #[.slice (some ⟨b, 0, none⟩) N N, .bool true]) ∧ Blk w' b (numI (netRow N E f E.length)) 3 ∧ Below w.heap.size w w') ∨
    (¬ okTo E f E.length ∧ e = .returned (.tuple #[.slice none 0 0, .bool false]) ∧ Below w.heap.size w w')
def BalRel (w : World) (b N : Nat) (E : Edg) (f : List Int) (iv : Value) (wr : World) : Prop :=
  ∃ k : Nat, k ≤ E.length ∧ iv = .int .i64 k ∧ okTo E f k ∧ RowM w b (netRow N E f k) wr
section
variable {P : Nat → Prop} {w : World} {p N : Nat} {E : Edg} {A B : List Bool} {f : List Int} {ev sv dv fv : Value} {ab : Nat} {us : List Value}
set_option maxHeartbeats 4000000 in
set_option maxRecDepth 100000 in
theorem balance_is (h : WebS P w p N E A B ev sv dv fv ab us) (hf : I64s w fv f) (hfl : f.length = E.length) :
    Calls Tryd.prog 32 #[pt p] w (BalPost w N E f) := by
  obtain ⟨x0, x1, x2, x3, x4, -, -, -, -, -⟩ := h.k.o5
  have hpl := h.k.lt
  have hnn := h.nn
  have hen := h.en
  have HW := Lib.hid h
  have HF := Lib.hid hf
  have HFL := Lib.hid hfl
  have hmk := RI.make1 w 23 3 (.int .i64 0) 8 rfl Tryd.underlying23 infoInt N (by omega) (by decide)
  obtain ⟨w1, hw1⟩ := named (w.alloc (.cells (List.replicate N (.int .i64 0)).toArray 3))
  have hb1 : Below w.heap.size w w1 := by rw [hw1]; exact below_alloc1 _
  have k1 : Blk w1 w.heap.size (numI (netRow N E f 0)) 3 := by rw [hw1, netRow_zero, numI_rep]; exact Blk.new _ _ _ _ rfl
  have HR1 : Hid (RowM w w.heap.size (netRow N E f 0) w1) := Lib.hid ⟨k1, hb1, Nat.le_refl _⟩
  rw [← hw1] at hmk
  obtain ⟨y0, y1, y2, y3, y4, -, -, -, -, -⟩ := (h.old hb1).k.o5
  have hpl1 := (h.old hb1).k.lt
  obtain ⟨eq0, ec0, rfl⟩ := HW.out.e.shape
  rw [zE_len] at *
  clear h hf hfl hb1 k1 hw1
  go_enter Tryd.func32, Tryd.ntmps32
  go_wp2_with fail
  clear hmk x0 x1 x2 x3 x4 y0 y1 y2 y3 y4
  go_loopw [5, 7, 8, 20] (fun _ _ _ iv wr => BalRel w w.heap.size N E f iv wr) (fun _ _ _ iv _ => E.length - (intOf iv).toNat)
  case atStart => exact ⟨0, Nat.zero_le _, rfl, fun i hi => by omega, HR1.out⟩
  case round =>
    obtain ⟨k, hk, rfl, hok, hr⟩ := hrel
    by_cases hlt : k < E.length
    · have hki : (k : Int) < (E.length : Int) := by omega
      obtain ⟨a, c, hac⟩ : ∃ a c, eL E k = (a, c) := ⟨_, _, rfl⟩
      have hin := HW.out.ein k hlt
      rw [hac] at hin
      obtain ⟨hin1, hin2⟩ := hin
      obtain ⟨eb, eo, rfl, e0, e1⟩ := (HW.out.e.below hr.b).at (k := k) (by rw [zE_len]; exact hlt)
      rw [zE_at, hac] at e0 e1
      have hel := World.block_lt_of_cell? wr _ e0
      have HR := Lib.hid hr
      have HOK := Lib.hid hok
      have HAC := Lib.hid hac
      clear hr HR1 hok hac
      simp only at e0 e1
      go_wp2_with fail
      go_quiet (fail)
      obtain ⟨w4, hw4⟩ := named ((wr.alloc (.cells #[.int .i64 a, .int .i64 c] 33)).drewN nq)
      have hb4 : Below wr.heap.size wr w4 := by rw [hw4]; exact below_drewN (below_alloc1 _) nq
      rw [← hw4]
      have HR4 := Lib.hid (HR.out.old hb4)
      obtain ⟨y0, y1, y2, y3, y4, -, -, -, -, -⟩ := (HW.out.old HR4.out.b).k.o5
      have hpl4 := (HW.out.old HR4.out.b).k.lt
      obtain ⟨fq, fc, rfl⟩ := HF.out.shape
      have hif : k < f.length := by rw [HFL.out]; exact hlt
      obtain ⟨fb, fo, hfq, hfc⟩ := (HF.out.below HR4.out.b).at hif
      subst hfq
      have hfl := World.block_lt_of_cell? w4 _ hfc
      have hfi : f[k] = fL f k := by simp [fL, hif]
      rw [hfi] at hfc
      have hkf : (k : Int) < (f.length : Int) := by omega
      have hai : (a : Int) < (N : Int) := by omega
      have hci : (c : Int) < (N : Int) := by omega
      clear hfi e0 e1 hel hb4 hw4
      by_cases hf0 : fL f k = 0
      · have HR1 : Hid (BalRel w w.heap.size N E f (.int .i64 ((k + 1 : Nat) : Int)) w4) := Lib.hid ⟨k + 1, hlt, rfl, HOK.out.step (Or.inl hf0), by rw [netRow_still hf0]; exact HR4.out⟩
        have hfb : (fL f k == 0) = true := by simpa using hf0
        clear hf0
        go_wp2_with fail
        go_roundw
        case rel => exact HR1.out
        case measure => simp [intOf]; omega
      have hfb0 : (fL f k == 0) = false := by simpa using hf0
      by_cases hfk : fL f k = -1
      · have hfb : (fL f k == -1) = true := by simpa using hfk
        have hx0 : IntKind.i64.wrap (netTo E f k c + 1) = netTo E f k c + 1 := IntWalk.i64_in _ (by have := netTo_bd HOK.out c; omega)
        have hy0 : IntKind.i64.wrap (netTo E f k a - 1) = netTo E f k a - 1 := IntWalk.i64_in _ (by have := netTo_bd HOK.out a; omega)
        by_cases hne : a = c
        · subst hne
          have HP : Hid (BalPost w N E f (.returned (.tuple #[.slice none 0 0, .bool false])) w4) := Lib.hid (Or.inr ⟨fun h => by
            rcases h k hlt with h | ⟨_, h⟩
            · omega
            · rw [HAC.out] at h; exact h rfl, rfl, HR4.out.b⟩)
          have hq0 : ((a : Int) == (a : Int)) = true := by simp
          clear hx0 hy0
          go_wp2_with fail
          go_ret2
          exact HP.out
        · have hq0 : ((a : Int) == (c : Int)) = false := beq_eq_false_iff_ne.2 (by omega)
          have hxl : c < (netRow N E f k).length := by rw [netRow_len]; assumption
          have hyl : a < (netRow N E f k).length := by rw [netRow_len]; assumption
          obtain ⟨xc, xf, xl⟩ := HR4.out.at hxl
          rw [netRow_at] at xc
          have hr5 := HR4.out.set c (netTo E f k c + 1)
          obtain ⟨yc, yf, yl⟩ := hr5.at (i := a) (by rw [List.length_set]; exact hyl)
          rw [List.getElem_set_ne (by omega), netRow_at] at yc
          have hr6 := hr5.set a (netTo E f k a - 1)
          rw [netRow_back hfk HAC.out hne] at hr6
          obtain ⟨w5, hw5⟩ := named (w4.setCell ⟨w.heap.size, c, none⟩ (.int .i64 (netTo E f k c + 1)))
          rw [← hw5] at hr5 yc yf yl hr6
          have HR1 : Hid (BalRel w w.heap.size N E f (.int .i64 ((k + 1 : Nat) : Int)) (w5.setCell ⟨w.heap.size, a, none⟩ (.int .i64 (netTo E f k a - 1)))) := Lib.hid ⟨k + 1, hlt, rfl, HOK.out.step (Or.inr ⟨Or.inr hfk, by rw [HAC.out]; exact hne⟩), hr6⟩
          generalize netTo E f k c = X at *
          generalize netTo E f k a = Y at *
          have e5 := hw5.symm
          clear hr5 hr6 hw5 hne hxl hyl HOK HR4 HR HAC
          go_wp2_with fail
          go_roundw
          case rel => exact HR1.out
          case measure => simp [intOf]; omega
      have hfb1 : (fL f k == -1) = false := by simpa using hfk
      by_cases hfk : fL f k = 1
      · have hfb : (fL f k == 1) = true := by simpa using hfk
        have hx0 : IntKind.i64.wrap (netTo E f k a + 1) = netTo E f k a + 1 := IntWalk.i64_in _ (by have := netTo_bd HOK.out a; omega)
        have hy0 : IntKind.i64.wrap (netTo E f k c - 1) = netTo E f k c - 1 := IntWalk.i64_in _ (by have := netTo_bd HOK.out c; omega)
        by_cases hne : a = c
        · subst hne
          have HP : Hid (BalPost w N E f (.returned (.tuple #[.slice none 0 0, .bool false])) w4) := Lib.hid (Or.inr ⟨fun h => by
            rcases h k hlt with h | ⟨_, h⟩
            · omega
            · rw [HAC.out] at h; exact h rfl, rfl, HR4.out.b⟩)
          have hq0 : ((a : Int) == (a : Int)) = true := by simp
          clear hx0 hy0
          go_wp2_with fail
          go_ret2
          exact HP.out
        · have hq0 : ((a : Int) == (c : Int)) = false := beq_eq_false_iff_ne.2 (by omega)
          have hxl : a < (netRow N E f k).length := by rw [netRow_len]; assumption
          have hyl : c < (netRow N E f k).length := by rw [netRow_len]; assumption
          obtain ⟨xc, xf, xl⟩ := HR4.out.at hxl
          rw [netRow_at] at xc
          have hr5 := HR4.out.set a (netTo E f k a + 1)
          obtain ⟨yc, yf, yl⟩ := hr5.at (i := c) (by rw [List.length_set]; exact hyl)
          rw [List.getElem_set_ne (by omega), netRow_at] at yc
          have hr6 := hr5.set c (netTo E f k c - 1)
          rw [netRow_forth hfk HAC.out hne] at hr6
          obtain ⟨w5, hw5⟩ := named (w4.setCell ⟨w.heap.size, a, none⟩ (.int .i64 (netTo E f k a + 1)))
          rw [← hw5] at hr5 yc yf yl hr6
          have HR1 : Hid (BalRel w w.heap.size N E f (.int .i64 ((k + 1 : Nat) : Int)) (w5.setCell ⟨w.heap.size, c, none⟩ (.int .i64 (netTo E f k c - 1)))) := Lib.hid ⟨k + 1, hlt, rfl, HOK.out.step (Or.inr ⟨Or.inl hfk, by rw [HAC.out]; exact hne⟩), hr6⟩
          generalize netTo E f k a = X at *
          generalize netTo E f k c = Y at *
          have e5 := hw5.symm
          clear hr5 hr6 hw5 hne hxl hyl HOK HR4 HR HAC
          go_wp2_with fail
          go_roundw
          case rel => exact HR1.out
          case measure => simp [intOf]; omega
      have hfb2 : (fL f k == 1) = false := by simpa using hfk
      have HP : Hid (BalPost w N E f (.returned (.tuple #[.slice none 0 0, .bool false])) w4) := Lib.hid (Or.inr ⟨fun h => by rcases h k hlt with h | ⟨h | h, _⟩ <;> contradiction, rfl, HR4.out.b⟩)
      clear hf0 hfk HR HR4
      go_wp2_with fail
      go_ret2
      exact HP.out
    · obtain rfl : k = E.length := by omega
      have HP : Hid (BalPost w N E f (.returned (.tuple #[.slice (some ⟨w.heap.size, 0, none⟩) N N, .bool true])) wr) := Lib.hid (Or.inl ⟨hok, _, rfl, hr.k, hr.b⟩)
      clear hr hok HR1
      go_wp2_with fail
      go_ret2
      exact HP.out
end
end Go.Proofs.YtleheaffipokfaaDoor
