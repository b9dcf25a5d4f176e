/-
  The program's cut: its small functions, and how many edges go over a side.
-/
import Derived.Test.YthfljimgpcignaaGreatDoorG25
import Derived.Test.YthfljimgpcignaaGreatDoorG21
import Derived.RegionTactic
import Derived.BigQuiet
import Derived.IntWalk
import Derived.Maps.AppendAt
namespace Go.Proofs.YthfljimgpcignaaGreatDoor
open Go.RowKit Go.Sort

theorem camong_is (i n : Int) (b : Bool) (w : World) (h : decide (0 ≤ i ∧ i < n) = b) : Calls Tryz.prog 32 #[.int .i64 i, .int .i64 n] w fun e w' => e = .returned (.bool b) ∧ w = w' := by
  by_cases h0 : 0 ≤ i
  · by_cases h1 : i < n
    · obtain rfl : b = true := by rw [← h]; simp; omega
      clear h
      go_enter Tryz.func32, Tryz.ntmps32
      go_wp2
      go_ret
      exact ⟨rfl, rfl⟩
    · obtain rfl : b = false := by rw [← h]; simp; omega
      have d1 : decide (i < n) = false := by simpa using h1
      clear h
      go_enter Tryz.func32, Tryz.ntmps32
      go_wp2
      go_ret
      exact ⟨rfl, rfl⟩
  · obtain rfl : b = false := by rw [← h]; simp; omega
    have d1 : decide (0 ≤ i) = false := by simpa using h0
    clear h
    go_enter Tryz.func32, Tryz.ntmps32
    go_wp2
    go_ret
    exact ⟨rfl, rfl⟩
theorem within_is (x : Int) (b : Bool) (w : World) (h : coordB x = b) : Calls Tryz.prog 30 #[.int .i64 x] w fun e w' => e = .returned (.bool b) ∧ w = w' := by
  unfold coordB at h
  by_cases h0 : -1048576 ≤ x
  · by_cases h1 : x ≤ 1048576
    · obtain rfl : b = true := by rw [← h]; simp [h0, h1]
      clear h
      have d0 : decide (-1048576 ≤ x) = true := by simpa using h0
      go_enter Tryz.func30, Tryz.ntmps30
      go_wp2
      go_ret
      exact ⟨rfl, rfl⟩
    · obtain rfl : b = false := by rw [← h]; simp; omega
      clear h
      have d0 : decide (-1048576 ≤ x) = true := by simpa using h0
      have d1 : decide (x ≤ 1048576) = false := by simpa using h1
      go_enter Tryz.func30, Tryz.ntmps30
      go_wp2
      go_ret
      exact ⟨rfl, rfl⟩
  · obtain rfl : b = false := by rw [← h]; simp; omega
    clear h
    have d0 : decide (-1048576 ≤ x) = false := by simpa using h0
    go_enter Tryz.func30, Tryz.ntmps30
    go_wp2
    go_ret
    exact ⟨rfl, rfl⟩
theorem cfault_is (p : ByteArray) (n c : Int) (w : World) :
    Calls Tryz.prog 31 #[.string p, .int .i64 n, .iface 59 (.int .i64 c)] w (ErrPost w p n c) := by
  go_enter Tryz.func31, Tryz.ntmps31
  go_wp2
  go_ret
  exact ⟨_, rfl, Blk.new _ _ _ _ rfl, below_alloc1 _⟩
theorem cmarked_is {w : World} {v : Value} {M : List Bool} (h : Bools w v M) {x : Nat} {b : Bool} (hb : setB M x = b) :
    Calls Tryz.prog 21 #[v, .int .i64 x] w fun e w' => e = .returned (.bool b) ∧ w' = w := by
  obtain ⟨q, c, rfl⟩ := h.shape
  subst hb
  by_cases hx : x < M.length
  · obtain ⟨g, o, rfl, hc⟩ := h.at hx
    rw [← setB_at hx] at hc
    have hl := World.block_lt_of_cell? w _ hc
    have hxi : (x : Int) < (M.length : Int) := by omega
    have HX : Hid (decide (0 ≤ (x : Int) ∧ (x : Int) < (M.length : Int)) = true) := Lib.hid (by simp; omega)
    clear h
    generalize setB M x = B at hc
    go_enter Tryz.func21, Tryz.ntmps21
    go_wp2_with fail
    refine (camong_is _ _ true _ HX.out).mono ?_
    rintro e w1 ⟨rfl, rfl⟩
    go_wp2_with fail
    go_ret
    exact ⟨rfl, rfl⟩
  · have HX : Hid (decide (0 ≤ (x : Int) ∧ (x : Int) < (M.length : Int)) = false) := Lib.hid (by simp; omega)
    have hB : setB M x = false := by
      cases e : setB M x
      · rfl
      · exact absurd (setB_lt e) hx
    rw [hB]
    clear h hB hx
    go_enter Tryz.func21, Tryz.ntmps21
    go_wp2_with fail
    refine (camong_is _ _ false _ HX.out).mono ?_
    rintro e w1 ⟨rfl, rfl⟩
    go_wp2_with fail
    go_ret
    exact ⟨rfl, rfl⟩
set_option maxHeartbeats 2000000 in
set_option maxRecDepth 100000 in
theorem ccross_is : CrossC := by
  intro w mv ev M E hm he hl
  obtain ⟨eq0, ec0, rfl⟩ := he.shape
  rw [zE_len] at he
  rw [zE_len]
  have HM := Lib.hid hm
  have HE := Lib.hid he
  clear hm he
  obtain ⟨V, hV⟩ : ∃ V, crossTo (setB M) E E.length = V := ⟨_, rfl⟩
  have HV := Lib.hid hV
  rw [show crossS (setB M) E = V from hV]
  clear hV
  go_enter Tryz.func9, Tryz.ntmps9
  go_wp2_with fail
  go_loopw [5, 7, 10] (fun sv _ iv wr => ∃ k : Nat, k ≤ E.length ∧ iv = .int .i64 k ∧ sv = .int .i64 (crossTo (setB M) E k) ∧ Hid (Below w.heap.size w wr)) (fun _ _ iv _ => E.length - (intOf iv).toNat)
  case atStart => exact ⟨0, Nat.zero_le _, rfl, rfl, Lib.hid (Below.refl _ _)⟩
  case round =>
    obtain ⟨k, hk, rfl, rfl, HB⟩ := hrel
    by_cases hlt : k < E.length
    · have hki : (k : Int) < (E.length : Int) := by omega
      obtain ⟨⟨a, c⟩, hac⟩ : ∃ e, eL E k = e := ⟨_, rfl⟩
      obtain ⟨eb, eo, rfl, e0, e1⟩ := (HE.out.below HB.out).at (k := k) (by rw [zE_len]; exact hlt)
      rw [zE_at, hac] at e0 e1
      simp only at e0 e1
      have hel := World.block_lt_of_cell? wr _ e0
      obtain ⟨W3, hW3⟩ := named (wr.alloc (.cells #[.int .i64 a, .int .i64 c] 44))
      have hb3 : Below wr.heap.size wr W3 := by rw [hW3]; exact below_alloc1 _
      obtain ⟨gg, hgg⟩ : ∃ gg, wr.heap.size = gg := ⟨_, rfl⟩
      have kg : Blk W3 gg #[.int .i64 a, .int .i64 c] 44 := by rw [hW3]; exact Blk.new _ _ _ _ hgg
      obtain ⟨d0, d1, -⟩ := kg.o2
      have hgl := kg.lt
      have HB3 := Lib.hid (bOn6 HB.out hb3)
      have e3 := hW3.symm
      have hs := crossTo_succ (setB M) E k
      rw [hac] at hs
      simp only at hs
      have hbd := crossTo_bd (setB M) E k
      obtain ⟨x, hx⟩ : ∃ x, setB M a = x := ⟨_, rfl⟩
      obtain ⟨y, hy⟩ : ∃ y, setB M c = y := ⟨_, rfl⟩
      rw [hx, hy] at hs
      have HX := Lib.hid hx
      have HY := Lib.hid hy
      have HMM := Lib.hid (HM.out.below HB3.out)
      have HS := Lib.hid hs
      generalize crossTo (setB M) E k = C at *
      have hwc : IntKind.i64.wrap (C + 1) = C + 1 := IntWalk.i64_in _ (by omega)
      clear hac hx hy hs hW3 hb3 kg HB
      cases x <;> cases y
      all_goals
        go_wp2_with fail
        go_quiet ((go_at_call 21; first | exact Calls.quiet_of_same (cmarked_is (HMM.out.below (below_drewN (Below.refl _ _) _)) HX.out) | exact Calls.quiet_of_same (cmarked_is (HMM.out.below (below_drewN (Below.refl _ _) _)) HY.out) | exact Calls.quiet_of_same (cmarked_is HMM.out HX.out) | exact Calls.quiet_of_same (cmarked_is HMM.out HY.out)))
        have HBN : Hid (Below w.heap.size w (W3.drewN nq)) := Lib.hid (below_drewN HB3.out nq)
        go_wp2_with fail
        go_roundw
        case rel => exact ⟨k + 1, hlt, by go_num, by rw [HS.out]; simp [b1], HBN⟩
        case measure => simp [intOf]; omega
    · obtain rfl : k = E.length := by omega
      go_wp2_with fail
      go_ret
      exact ⟨ret_intD HV.out, HB.out⟩
set_option maxHeartbeats 2000000 in
set_option maxRecDepth 100000 in
theorem cmarks_is {w : World} {v : Value} {N : Nat} {S : List Nat} (h : I64s w v (zN S)) (hS : ∀ x, x ∈ S → x < N) (hN : N ≤ 4096) (hl : S.length ≤ 1000000) :
    Calls Tryz.prog 36 #[.int .i64 N, v] w fun e w' => e = .returned (.slice (some ⟨w.heap.size, 0, none⟩) N N) ∧ Blk w' w.heap.size (bolB (markL N S)) 4 ∧ Below w.heap.size w w' := by
  obtain ⟨q, c, rfl⟩ := h.shape
  rw [zN_len]
  have HV := Lib.hid h
  have HS := Lib.hid hS
  have hmk := RI.make1 w 23 4 (.bool false) 1 rfl Tryz.underlying23 infoBool N (by omega) (by decide)
  obtain ⟨w1, hw1⟩ := named (w.alloc (.cells (List.replicate N (.bool false)).toArray 4))
  have hb1 : Below w.heap.size w w1 := by rw [hw1]; exact below_alloc1 _
  have k1 : Blk w1 w.heap.size (bolB (markL N (S.take 0))) 4 := by rw [hw1, List.take_zero, markL_nil, bolB_rep]; exact Blk.new _ _ _ _ rfl
  rw [← hw1] at hmk
  have HB1 := Lib.hid hb1
  have HK1 := Lib.hid k1
  clear h hS hb1 k1 hw1
  go_enter Tryz.func36, Tryz.ntmps36
  go_wp2_with fail
  clear hmk
  go_loopw [7, 12] (fun _ iv wr => ∃ k : Nat, k ≤ S.length ∧ iv = .int .i64 k ∧ Blk wr w.heap.size (bolB (markL N (S.take k))) 4 ∧ Below w.heap.size w wr) (fun _ iv _ => S.length - (intOf iv).toNat)
  case atStart => exact ⟨0, Nat.zero_le _, rfl, HK1.out, HB1.out⟩
  case round =>
    obtain ⟨k, hk, rfl, hkb, hb⟩ := hrel
    by_cases hlt : k < S.length
    · have hki : (k : Int) < (S.length : Int) := by omega
      have hzl := zN_len S
      have HV2 : Hid (I64s wr (.slice q S.length c) (zN S)) := Lib.hid (by have := HV.out.below hb; rwa [zN_len] at this)
      obtain ⟨eb, eo, rfl, ec⟩ := HV2.out.at (k := k) (by omega)
      obtain ⟨x, hx⟩ : ∃ x, S[k] = x := ⟨_, rfl⟩
      rw [show (zN S)[k]'(by omega) = (x : Int) from by simp [zN, hx]] at ec
      have hxN : x < N := HS.out x (by rw [← hx]; exact List.getElem_mem hlt)
      have hxi : (x : Int) < (N : Int) := by omega
      have hel := World.block_lt_of_cell? wr _ ec
      have xc := hkb.cell x (bolB_at (l := markL N (S.take k)) (by rw [markL_len]; exact hxN))
      have xf := hkb.free x
      have xl := hkb.lt
      have hk2 := hkb.set x (.bool true)
      rw [bolB_set, markL_snoc, show S.take k ++ [x] = S.take (k + 1) from by rw [List.take_succ_eq_append_getElem hlt, hx]] at hk2
      have HR : Hid (Blk (wr.setCell ⟨w.heap.size, x, none⟩ (.bool true)) w.heap.size (bolB (markL N (S.take (k + 1)))) 4 ∧ Below w.heap.size w (wr.setCell ⟨w.heap.size, x, none⟩ (.bool true))) := Lib.hid ⟨hk2, hb.setCell (Nat.le_refl _) _⟩
      clear hk2 hkb hb hx HK1 HB1 hzl
      go_wp2_with fail
      go_roundw
      case rel => exact ⟨k + 1, hlt, by go_num, HR.out.1, HR.out.2⟩
      case measure => simp [intOf]; omega
    · obtain rfl : k = S.length := by omega
      have HP := Lib.hid (And.intro hkb hb)
      clear hkb hb HK1 HB1
      go_wp2_with fail
      go_ret
      refine ⟨rfl, ?_, HP.out.2⟩
      have := HP.out.1
      rwa [List.take_length] at this
/-- How many more of the first k are marked than not. -/
def mrX (l : List Bool) (k : Nat) : Int := 2 * (cntT (l.take k) : Int) - k
set_option maxHeartbeats 4000000 in
set_option maxRecDepth 100000 in
theorem cuneven_is {w : World} {v : Value} {l : List Bool} (h : Bools w v l) (hl : l.length ≤ 100000) :
    Calls Tryz.prog 40 #[v] w fun e w' => e = .returned (.int .i64 (unevL l)) ∧ w' = w := by
  obtain ⟨q, c, rfl⟩ := h.shape
  have HV := Lib.hid h
  clear h
  go_enter Tryz.func40, Tryz.ntmps40
  go_wp2_with fail
  go_loop [3, 5, 8] (fun mv _ iv => ∃ k : Nat, k ≤ l.length ∧ iv = .int .i64 k ∧ mv = .int .i64 (mrX l k)) (fun _ _ iv => l.length - (intOf iv).toNat)
  case atStart => exact ⟨0, Nat.zero_le _, rfl, by simp [mrX, cntT]⟩
  case round =>
    obtain ⟨k, hk, rfl, rfl⟩ := hrel
    have hcl : cntT (l.take k) ≤ k := by have := cntT_le (l.take k); rw [List.length_take] at this; omega
    have hX : mrX l k = 2 * (cntT (l.take k) : Int) - k := rfl
    by_cases hlt : k < l.length
    · have hki : (k : Int) < (l.length : Int) := by omega
      have hwk : IntKind.i64.wrap ((k : Int) + 1) = (k : Int) + 1 := IntWalk.i64_in _ (by omega)
      obtain ⟨bb, bo, rfl, bc⟩ := HV.out.at (k := k) hlt
      have bl := World.block_lt_of_cell? w _ bc
      have HT : l.take (k + 1) = l.take k ++ [l[k]] := List.take_succ_eq_append_getElem hlt
      cases hx : l[k] with
      | true =>
        have HC : Hid (mrX l k + 1 = mrX l (k + 1)) := Lib.hid (by unfold mrX; rw [HT, hx, cntT_snoc]; simp; omega)
        obtain ⟨X, hX2⟩ : ∃ X, mrX l k = X := ⟨_, rfl⟩
        rw [hX2] at HC hX ⊢
        rw [hx] at bc
        have hw2 : IntKind.i64.wrap (X + 1) = X + 1 := IntWalk.i64_in _ (by omega)
        clear HT hX hX2 hcl hx
        go_wp2_with fail
        go_round
        case rel => exact ⟨k + 1, hlt, by go_num, by rw [HC.out]⟩
        case measure => simp [intOf]; omega
      | false =>
        have HC : Hid (mrX l k - 1 = mrX l (k + 1)) := Lib.hid (by unfold mrX; rw [HT, hx, cntT_snoc]; simp; omega)
        obtain ⟨X, hX2⟩ : ∃ X, mrX l k = X := ⟨_, rfl⟩
        rw [hX2] at HC hX ⊢
        rw [hx] at bc
        have hw2 : IntKind.i64.wrap (X - 1) = X - 1 := IntWalk.i64_in _ (by omega)
        clear HT hX hX2 hcl hx
        go_wp2_with fail
        go_round
        case rel => exact ⟨k + 1, hlt, by go_num, by rw [HC.out]⟩
        case measure => simp [intOf]; omega
    · obtain rfl : k = l.length := by omega
      have hu : unevL l = if mrX l l.length < 0 then 0 - mrX l l.length else mrX l l.length := by unfold mrX; rw [List.take_length]; rfl
      obtain ⟨X, hX2⟩ : ∃ X, mrX l l.length = X := ⟨_, rfl⟩
      rw [hX2] at hX hu ⊢
      have HU := Lib.hid hu
      rw [List.take_length] at hcl hX
      have hw3 : IntKind.i64.wrap (-X) = -X := IntWalk.i64_in _ (by omega)
      have hm : max X (-X) = if X < 0 then 0 - X else X := by split <;> omega
      have HMX := Lib.hid hm
      have hX9 : -100000 ≤ X ∧ X ≤ 100000 := by omega
      obtain ⟨hX7, hX8⟩ := hX9
      clear hu hX2 hcl hk hlt hX hm
      go_wp2_with fail
      go_ret
      exact ⟨by rw [HU.out, ← HMX.out]; rfl, rfl⟩
end Go.Proofs.YthfljimgpcignaaGreatDoor

/-
  The best of a row of splits: the program's compare, and slices.MinFunc over it.
-/
namespace Go.Proofs.YthfljimgpcignaaGreatDoor.GG
open Go.RowKit Go.Sort

section
variable {σ : Type} {Rl : σ → World → σ → World → Prop} {P : Program} {ops : Array Oper} {n : Nat} {A : List (List Nat)} {S : (Nat → Bool) → σ → World → Prop} {Ds : List (Fact Rl)} {fin : Act → Prop} {i : Nat} {o : Oper} {r : List Oper} {c : Act}
theorem run_callv {f : FuncId} {x : Operand} {l : List Operand} {ts : Array TypeId} {fn : Func} {code : Code} {ρ : Operand → Value} (ho : o.op = .call { callee := .value x, args := ⟨l⟩, argTypes := ts }) (hρ : ρ x = .func (.func f) #[] #[])
    (hfn : P.funcs[f]? = some fn) (hname : (fn.name == "runtime.NumGoroutine") = false) (hb : fn.body = some code) (w : World) :
    (execOp ρ o).run P w = .ok (.enter f ⟨l.map ρ⟩) w := by
  have h1 : fn.name ≠ "runtime.NumGoroutine" := by simpa using hname
  unfold execOp
  simp [ho, resolve, hρ, Deferred.ofValue, invoke, callFunc, hfn, h1, hb]
/-- A call of a function that was handed in, whose value is known. -/
theorem grow_lit_callv {f : FuncId} {x : Operand} {l : List Operand} {ts : Array TypeId} {fn : Func} {code : Code} {u : Value} (ho : o.op = .call { callee := .value x, args := ⟨l⟩, argTypes := ts }) (hx : c.eval x = .func (.func f) #[] #[])
    (hfn : P.funcs[f]? = some fn) (hname : (fn.name == "runtime.NumGoroutine") = false) (hb : fn.body = some code)
    (hf : factAt Ds i = .lit u) (hw : Region.wanted o (yielded ops c.tmps) = true)
    (hrun : ∀ dn s w, S dn s w → dn i = false → (∀ k ∈ A.getD i [], holdsAt ops Ds n k c s w) → Calls P f ⟨l.map c.eval⟩ w (fun e w' => ∃ s', e = .returned u ∧ S (doneG dn i) s' w' ∧ Rl s w s' w' ∧ w.heap.size ≤ w'.heap.size))
    {c' : Act} (hc : c.put o.dst u = c') (h : GrowSeq P ops n A S Ds fin (i + 1) r c') : GrowSeq P ops n A S Ds fin i (o :: r) c := by
  subst hc
  refine ⟨fun dn s w hs hd H K hK => ?_, by rw [hf]; exact h⟩
  rw [if_pos hw]
  unfold Oper.wp
  rw [run_callv ho hx hfn hname hb]
  refine (hrun dn s w hs hd H).mono ?_
  rintro e w' ⟨s', rfl, h1, hbl⟩
  exact hK u s' w' (by rw [hf]; exact rfl) (fun h => by rw [hf] at h; cases h) h1 hbl
end
end Go.Proofs.YthfljimgpcignaaGreatDoor.GG
namespace Go.Proofs.YthfljimgpcignaaGreatDoor
open Go.RowKit Go.Sort

/-- How two splits stand. -/
def cmpS (a b : Spl) : Int := if cmpI a.cross b.cross = 0 then cmpI (unevL a.side) (unevL b.side) else cmpI a.cross b.cross
theorem cmpS_neg (a b : Spl) : cmpS a b < 0 ↔ a.cross < b.cross ∨ a.cross = b.cross ∧ unevL a.side < unevL b.side := by
  unfold cmpS cmpI
  repeat' split
  all_goals omega
/-- The best of the first k is at n. -/
structure BestTo (L : List Spl) (n : Nat) (s : Spl) (k : Nat) : Prop where
  at' : L[n]? = some s
  lt : n < k
  best : ∀ i x, i < k → L[i]? = some x → s.cross < x.cross ∨ s.cross = x.cross ∧ (unevL s.side < unevL x.side ∨ unevL s.side = unevL x.side ∧ n ≤ i)
theorem BestTo.one {L : List Spl} {s : Spl} (h : L[0]? = some s) : BestTo L 0 s 1 := ⟨h, by omega, fun i x hi hx => by
  obtain rfl : i = 0 := by omega
  obtain rfl := Option.some.inj (h.symm.trans hx)
  exact Or.inr ⟨rfl, Or.inr ⟨rfl, Nat.le_refl _⟩⟩⟩
theorem BestTo.take {L : List Spl} {n k : Nat} {s x : Spl} (h : BestTo L n s k) (hx : L[k]? = some x) (hr : cmpS x s < 0) : BestTo L k x (k + 1) := ⟨hx, by omega, fun i y hi hy => by
  rw [cmpS_neg] at hr
  by_cases e : i = k
  · subst e
    obtain rfl := Option.some.inj (hx.symm.trans hy)
    exact Or.inr ⟨rfl, Or.inr ⟨rfl, Nat.le_refl _⟩⟩
  · have := h.best i y (by omega) hy
    omega⟩
theorem BestTo.stay {L : List Spl} {n k : Nat} {s x : Spl} (h : BestTo L n s k) (hx : L[k]? = some x) (hr : ¬ cmpS x s < 0) : BestTo L n s (k + 1) := ⟨h.at', by have := h.lt; omega, fun i y hi hy => by
  rw [cmpS_neg] at hr
  by_cases e : i = k
  · subst e
    obtain rfl := Option.some.inj (hx.symm.trans hy)
    have := h.lt
    omega
  · exact h.best i y (by omega) hy⟩
theorem BestTo.all {L : List Spl} {n : Nat} {s : Spl} (h : BestTo L n s L.length) : BestAt L n s := ⟨h.at', fun i x hx => h.best i x (List.getElem?_eq_some_iff.1 hx).1 hx⟩
theorem Spls.at4 {w : World} {a o n c i : Nat} {L : List Spl} {x : Spl} (h : Spls w (.slice (some ⟨a, o, none⟩) n c) L) (hx : L[i]? = some x) : ∃ sv, Bools w sv x.side ∧ w.cell? ⟨a, o + i * 4, none⟩ = some sv ∧ w.cell? ⟨a, o + i * 4 + 1, none⟩ = some (.int .i64 x.cross) ∧ w.cell? ⟨a, o + i * 4 + 2, none⟩ = some (.int .i64 x.dir) ∧ w.cell? ⟨a, o + i * 4 + 3, none⟩ = some (.int .i64 x.kind) ∧ a < w.heap.size := by
  obtain ⟨b', o', c', e, hc⟩ := h
  injection e with e1 e2 e3
  injection e1 with e1
  injection e1 with e1 e4
  subst e1 e4
  obtain ⟨sv, c0, hb, c1, c2, c3⟩ := hc i x hx
  exact ⟨sv, hb, c0, c1, c2, c3, World.block_lt_of_cell? w _ c0⟩
set_option maxHeartbeats 8000000 in
set_option maxRecDepth 100000 in
theorem ccompare_is {w : World} {va vb : Value} {A B : List Bool} {ca da ka cb db kb : Int} (hA : Bools w va A) (hB : Bools w vb B) (hla : A.length ≤ 100000) (hlb : B.length ≤ 100000) {r : Int} (hr : cmpS ⟨A, ca, da, ka⟩ ⟨B, cb, db, kb⟩ = r) :
    Calls Tryz.prog 26 #[.agg #[va, .int .i64 ca, .int .i64 da, .int .i64 ka], .agg #[vb, .int .i64 cb, .int .i64 db, .int .i64 kb]] w fun e w' => e = .returned (.int .i64 r) ∧ Below w.heap.size w w' := by
  obtain ⟨qa, sa, rfl⟩ := hA.shape
  obtain ⟨qb, sb, rfl⟩ := hB.shape
  obtain ⟨U, hU⟩ : ∃ U, unevL A = U := ⟨_, rfl⟩
  obtain ⟨V, hV⟩ : ∃ V, unevL B = V := ⟨_, rfl⟩
  obtain ⟨c1, hc1⟩ : ∃ c1, cmpI ca cb = c1 := ⟨_, rfl⟩
  obtain ⟨c2, hc2⟩ : ∃ c2, cmpI U V = c2 := ⟨_, rfl⟩
  have HR : Hid ((if c1 = 0 then c2 else c1) = r) := Lib.hid (by rw [← hr, ← hc1, ← hc2, ← hU, ← hV]; rfl)
  have HU := Lib.hid hU
  have HV := Lib.hid hV
  have HC1 := Lib.hid hc1
  have HC2 := Lib.hid hc2
  have HL := Lib.hid (And.intro hla hlb)
  have HA := Lib.hid hA
  have HB := Lib.hid hB
  have HBW := Lib.hid (Below.refl w.heap.size w)
  obtain ⟨NA, hNA⟩ : ∃ n, A.length = n := ⟨_, rfl⟩
  obtain ⟨NB, hNB⟩ : ∃ n, B.length = n := ⟨_, rfl⟩
  rw [hNA] at HA ⊢
  rw [hNB] at HB ⊢
  clear hA hB hU hV hc1 hc2 hr hla hlb hNA hNB
  obtain ⟨x1, hx1⟩ := named (w.alloc (.cells #[.slice qa NA sa, .int .i64 ca, .int .i64 da, .int .i64 ka] 36))
  have hb : Below w.heap.size w x1 := by rw [hx1]; exact below_alloc1 _
  obtain ⟨g1, hg1⟩ : ∃ g, w.heap.size = g := ⟨_, rfl⟩
  have kb : Blk x1 g1 #[.slice qa NA sa, .int .i64 ca, .int .i64 da, .int .i64 ka] 36 := by rw [hx1]; exact Blk.new _ _ _ _ hg1
  have HA_ := Lib.hid (HA.out.below hb)
  have HB_ := Lib.hid (HB.out.below hb)
  have HBW_ := Lib.hid (bOn6 HBW.out hb)
  clear HA HB HBW
  have HA := HA_
  have HB := HB_
  have HBW := HBW_
  clear HA_ HB_ HBW_
  have K1 := Lib.hid (kb)
  have e1 := hx1.symm
  have z1 : Hid (x1.heap.size = w.heap.size + 1) := Lib.hid (by rw [hx1]; simp)
  clear hb kb hx1
  obtain ⟨x2, hx2⟩ := named (x1.alloc (.cells #[.slice qb NB sb, .int .i64 cb, .int .i64 db, .int .i64 kb] 36))
  have hb : Below x1.heap.size x1 x2 := by rw [hx2]; exact below_alloc1 _
  obtain ⟨g2, hg2⟩ : ∃ g, x1.heap.size = g := ⟨_, rfl⟩
  have kb : Blk x2 g2 #[.slice qb NB sb, .int .i64 cb, .int .i64 db, .int .i64 kb] 36 := by rw [hx2]; exact Blk.new _ _ _ _ hg2
  have HA_ := Lib.hid (HA.out.below hb)
  have HB_ := Lib.hid (HB.out.below hb)
  have HBW_ := Lib.hid (bOn6 HBW.out hb)
  have K1_ := Lib.hid (K1.out.keep hb)
  clear HA HB HBW K1
  have HA := HA_
  have HB := HB_
  have HBW := HBW_
  have K1 := K1_
  clear HA_ HB_ HBW_ K1_
  have K2 := Lib.hid (kb)
  have e2 := hx2.symm
  have z2 : Hid (x2.heap.size = x1.heap.size + 1) := Lib.hid (by rw [hx2]; simp)
  clear hb kb hx2
  have DS0 : Hid (GG.BelL x2 (fun _ => false) () x2.drew) := Lib.hid ⟨(Below.refl _ _).drew⟩
  go_enter Tryz.func26, Tryz.ntmps26
  go_wp2_with fail
  clear e1 e2 z1 z2
  refine' GG.wp_growL _ (GG.BelL x2) [[], [0], [], [2], [0, 1, 2, 3], [], [5], [0, 1, 2, 3, 4, 5, 6], [], [8], [0, 1, 2, 3, 4, 5, 6, 7, 8, 9], [0, 1, 2, 3, 4, 5, 6, 7, 8, 9, 10], [0, 1, 2, 3, 4, 5, 6, 7, 8, 9, 10, 11], [0, 1, 2, 3, 4, 5, 6, 7, 8, 9, 10, 11, 12], [0, 1, 2, 3, 4, 5, 6, 7, 8, 9, 10, 11, 12, 13]] (GG.Fact.lit (Rl := GG.RlL) _ :: GG.Fact.lit (Rl := GG.RlL) _ :: GG.Fact.lit (Rl := GG.RlL) _ :: GG.Fact.lit (Rl := GG.RlL) _ :: GG.Fact.lit (Rl := GG.RlL) _ :: GG.Fact.lit (Rl := GG.RlL) _ :: GG.Fact.lit (Rl := GG.RlL) _ :: GG.Fact.lit (Rl := GG.RlL) _ :: GG.Fact.lit (Rl := GG.RlL) _ :: GG.Fact.lit (Rl := GG.RlL) _ :: GG.Fact.lit (Rl := GG.RlL) _ :: GG.Fact.lit (Rl := GG.RlL) _ :: GG.Fact.prop (Rl := GG.RlL) _ _ :: GG.Fact.lit (Rl := GG.RlL) _ :: GG.Fact.lit (Rl := GG.RlL) _ :: []) (by kernel_rfl) rfl (by kernel_rfl) (()) (DS0.out) ?seqcm
  case' seqcm => skip
  (refine' GG.grow_lit (GG.BelL.still) rfl ?wtcm0 ?runcm0 ?putcm0 ?nextcm0; (case wtcm0 => rfl); (case runcm0 => (intro w' hS; (obtain ⟨dn, s, hS⟩ := hS); (have k1 := K1.out.keep hS.b); (obtain ⟨p0, p1, p2, p3, -⟩ := k1.o4); (have l1 := k1.lt); (have k2 := K2.out.keep hS.b); (obtain ⟨r0, r1, r2, r3, -⟩ := k2.o4); (have l2 := k2.lt); clear k1 k2 hS; go_simp; first | done | exact rfl)); (case putcm0 => (first | (simp only [Act.put, List.setIfInBounds_toArray, List.set_cons_zero, List.set_cons_succ]; first | done | exact rfl) | rfl)); (case' nextcm0 => skip))
  (refine' GG.grow_lit (GG.BelL.still) rfl ?wtcm1 ?runcm1 ?putcm1 ?nextcm1; (case wtcm1 => rfl); (case runcm1 => (intro w' hS; (obtain ⟨dn, s, hS⟩ := hS); (have k1 := K1.out.keep hS.b); (obtain ⟨p0, p1, p2, p3, -⟩ := k1.o4); (have l1 := k1.lt); (have k2 := K2.out.keep hS.b); (obtain ⟨r0, r1, r2, r3, -⟩ := k2.o4); (have l2 := k2.lt); clear k1 k2 hS; go_simp; first | done | exact rfl)); (case putcm1 => (first | (simp only [Act.put, List.setIfInBounds_toArray, List.set_cons_zero, List.set_cons_succ]; first | done | exact rfl) | rfl)); (case' nextcm1 => skip))
  (refine' GG.grow_lit (GG.BelL.still) rfl ?wtcm2 ?runcm2 ?putcm2 ?nextcm2; (case wtcm2 => rfl); (case runcm2 => (intro w' hS; (obtain ⟨dn, s, hS⟩ := hS); (have k1 := K1.out.keep hS.b); (obtain ⟨p0, p1, p2, p3, -⟩ := k1.o4); (have l1 := k1.lt); (have k2 := K2.out.keep hS.b); (obtain ⟨r0, r1, r2, r3, -⟩ := k2.o4); (have l2 := k2.lt); clear k1 k2 hS; go_simp; first | done | exact rfl)); (case putcm2 => (first | (simp only [Act.put, List.setIfInBounds_toArray, List.set_cons_zero, List.set_cons_succ]; first | done | exact rfl) | rfl)); (case' nextcm2 => skip))
  (refine' GG.grow_lit (GG.BelL.still) rfl ?wtcm3 ?runcm3 ?putcm3 ?nextcm3; (case wtcm3 => rfl); (case runcm3 => (intro w' hS; (obtain ⟨dn, s, hS⟩ := hS); (have k1 := K1.out.keep hS.b); (obtain ⟨p0, p1, p2, p3, -⟩ := k1.o4); (have l1 := k1.lt); (have k2 := K2.out.keep hS.b); (obtain ⟨r0, r1, r2, r3, -⟩ := k2.o4); (have l2 := k2.lt); clear k1 k2 hS; go_simp; first | done | exact rfl)); (case putcm3 => (first | (simp only [Act.put, List.setIfInBounds_toArray, List.set_cons_zero, List.set_cons_succ]; first | done | exact rfl) | rfl)); (case' nextcm3 => skip))
  (refine' GG.grow_lit_call (u := .int .i64 c1) rfl Tryz.func39 (by kernel_rfl) rfl rfl ?wtcm4 ?runcm4 ?putcm4 ?nextcm4; (case wtcm4 => rfl); (case runcm4 => (intro dn s w' hS hd H; exact (compare_is ca cb w' HC1.out).mono (fun e w2 h => ⟨(), h.1, ⟨h.2 ▸ hS.b⟩, h.2 ▸ Below.refl _ _, h.2 ▸ Nat.le_refl _⟩))); (case putcm4 => (first | (simp only [Act.put, List.setIfInBounds_toArray, List.set_cons_zero, List.set_cons_succ]; first | done | exact rfl) | rfl)); (case' nextcm4 => skip))
  (refine' GG.grow_lit (GG.BelL.still) rfl ?wtcm5 ?runcm5 ?putcm5 ?nextcm5; (case wtcm5 => rfl); (case runcm5 => (intro w' hS; (obtain ⟨dn, s, hS⟩ := hS); (have k1 := K1.out.keep hS.b); (obtain ⟨p0, p1, p2, p3, -⟩ := k1.o4); (have l1 := k1.lt); (have k2 := K2.out.keep hS.b); (obtain ⟨r0, r1, r2, r3, -⟩ := k2.o4); (have l2 := k2.lt); clear k1 k2 hS; go_simp; first | done | exact rfl)); (case putcm5 => (first | (simp only [Act.put, List.setIfInBounds_toArray, List.set_cons_zero, List.set_cons_succ]; first | done | exact rfl) | rfl)); (case' nextcm5 => skip))
  (refine' GG.grow_lit (GG.BelL.still) rfl ?wtcm6 ?runcm6 ?putcm6 ?nextcm6; (case wtcm6 => rfl); (case runcm6 => (intro w' hS; (obtain ⟨dn, s, hS⟩ := hS); (have k1 := K1.out.keep hS.b); (obtain ⟨p0, p1, p2, p3, -⟩ := k1.o4); (have l1 := k1.lt); (have k2 := K2.out.keep hS.b); (obtain ⟨r0, r1, r2, r3, -⟩ := k2.o4); (have l2 := k2.lt); clear k1 k2 hS; go_simp; first | done | exact rfl)); (case putcm6 => (first | (simp only [Act.put, List.setIfInBounds_toArray, List.set_cons_zero, List.set_cons_succ]; first | done | exact rfl) | rfl)); (case' nextcm6 => skip))
  (refine' GG.grow_lit_call (u := .int .i64 U) rfl Tryz.func40 (by kernel_rfl) rfl rfl ?wtcm7 ?runcm7 ?putcm7 ?nextcm7; (case wtcm7 => rfl); (case runcm7 => (intro dn s w' hS hd H; exact (cuneven_is (HA.out.below hS.b) HL.out.1).mono (fun e w2 h => by rw [HU.out] at h; exact ⟨(), h.1, ⟨by rw [h.2]; exact hS.b⟩, by rw [h.2]; exact Below.refl _ _, by rw [h.2]; exact Nat.le_refl _⟩))); (case putcm7 => (first | (simp only [Act.put, List.setIfInBounds_toArray, List.set_cons_zero, List.set_cons_succ]; first | done | exact rfl) | rfl)); (case' nextcm7 => skip))
  (refine' GG.grow_lit (GG.BelL.still) rfl ?wtcm8 ?runcm8 ?putcm8 ?nextcm8; (case wtcm8 => rfl); (case runcm8 => (intro w' hS; (obtain ⟨dn, s, hS⟩ := hS); (have k1 := K1.out.keep hS.b); (obtain ⟨p0, p1, p2, p3, -⟩ := k1.o4); (have l1 := k1.lt); (have k2 := K2.out.keep hS.b); (obtain ⟨r0, r1, r2, r3, -⟩ := k2.o4); (have l2 := k2.lt); clear k1 k2 hS; go_simp; first | done | exact rfl)); (case putcm8 => (first | (simp only [Act.put, List.setIfInBounds_toArray, List.set_cons_zero, List.set_cons_succ]; first | done | exact rfl) | rfl)); (case' nextcm8 => skip))
  (refine' GG.grow_lit (GG.BelL.still) rfl ?wtcm9 ?runcm9 ?putcm9 ?nextcm9; (case wtcm9 => rfl); (case runcm9 => (intro w' hS; (obtain ⟨dn, s, hS⟩ := hS); (have k1 := K1.out.keep hS.b); (obtain ⟨p0, p1, p2, p3, -⟩ := k1.o4); (have l1 := k1.lt); (have k2 := K2.out.keep hS.b); (obtain ⟨r0, r1, r2, r3, -⟩ := k2.o4); (have l2 := k2.lt); clear k1 k2 hS; go_simp; first | done | exact rfl)); (case putcm9 => (first | (simp only [Act.put, List.setIfInBounds_toArray, List.set_cons_zero, List.set_cons_succ]; first | done | exact rfl) | rfl)); (case' nextcm9 => skip))
  (refine' GG.grow_lit_call (u := .int .i64 V) rfl Tryz.func40 (by kernel_rfl) rfl rfl ?wtcm10 ?runcm10 ?putcm10 ?nextcm10; (case wtcm10 => rfl); (case runcm10 => (intro dn s w' hS hd H; exact (cuneven_is (HB.out.below hS.b) HL.out.2).mono (fun e w2 h => by rw [HV.out] at h; exact ⟨(), h.1, ⟨by rw [h.2]; exact hS.b⟩, by rw [h.2]; exact Below.refl _ _, by rw [h.2]; exact Nat.le_refl _⟩))); (case putcm10 => (first | (simp only [Act.put, List.setIfInBounds_toArray, List.set_cons_zero, List.set_cons_succ]; first | done | exact rfl) | rfl)); (case' nextcm10 => skip))
  (refine' GG.grow_lit_call (u := .int .i64 c2) rfl Tryz.func39 (by kernel_rfl) rfl rfl ?wtcm11 ?runcm11 ?putcm11 ?nextcm11; (case wtcm11 => rfl); (case runcm11 => (intro dn s w' hS hd H; exact (compare_is U V w' HC2.out).mono (fun e w2 h => ⟨(), h.1, ⟨h.2 ▸ hS.b⟩, h.2 ▸ Below.refl _ _, h.2 ▸ Nat.le_refl _⟩))); (case putcm11 => (first | (simp only [Act.put, List.setIfInBounds_toArray, List.set_cons_zero, List.set_cons_succ]; first | done | exact rfl) | rfl)); (case' nextcm11 => skip))
  (refine' GG.grow_any_op (p := Pair2 c1 c2) (hp := Pair2.st) rfl ?wtcm12 ?runcm12 ?putcm12 ?nextcm12; (case wtcm12 => rfl); (case runcm12 => (intro dn s w' hS hd H; (have hb := below_alloc1 (w := w') (.cells #[.int .i64 c1, .int .i64 c2] 3)); refine ⟨.slice (some ⟨w'.heap.size, 0, none⟩) 2 2, (), w'.alloc (.cells #[.int .i64 c1, .int .i64 c2] 3), ?_, ⟨_, rfl, Blk.new _ _ _ _ rfl⟩, ⟨hS.b.trans (hb.mono hS.b.size)⟩, hb, hb.size⟩; (clear hS H; go_simp))); (case putcm12 => (intro v; (simp only [Act.put, List.setIfInBounds_toArray, List.set_cons_zero, List.set_cons_succ]; first | done | exact rfl))); (case' nextcm12 => intro v12))
  (refine' GG.grow_lit_call (u := .int .i64 r) rfl Tryz.func38 (by kernel_rfl) rfl rfl ?wtcm13 ?runcm13 ?putcm13 ?nextcm13; (case wtcm13 => rfl); (case runcm13 => (intro dn s w' hS hd H; (obtain ⟨g, e12, kg⟩ := (show Pair2 c1 c2 v12 () w' from H 12 (by decide))); subst e12; exact (or_is c1 c2 g w' kg HR.out).mono (fun e w2 h => ⟨(), h.1, ⟨h.2 ▸ hS.b⟩, h.2 ▸ Below.refl _ _, h.2 ▸ Nat.le_refl _⟩))); (case putcm13 => (first | (simp only [Act.put, List.setIfInBounds_toArray, List.set_cons_zero, List.set_cons_succ]; first | done | exact rfl) | rfl)); (case' nextcm13 => skip))
  (refine' GG.grow_lit (GG.BelL.still) rfl ?wtcm14 ?runcm14 ?putcm14 ?nextcm14; (case wtcm14 => rfl); (case runcm14 => (intro w' hS; (obtain ⟨dn, s, hS⟩ := hS); (have k1 := K1.out.keep hS.b); (obtain ⟨p0, p1, p2, p3, -⟩ := k1.o4); (have l1 := k1.lt); (have k2 := K2.out.keep hS.b); (obtain ⟨r0, r1, r2, r3, -⟩ := k2.o4); (have l2 := k2.lt); clear k1 k2 hS; go_simp; first | done | exact rfl)); (case putcm14 => (first | (simp only [Act.put, List.setIfInBounds_toArray, List.set_cons_zero, List.set_cons_succ]; first | done | exact rfl) | rfl)); (case' nextcm14 => skip))
  intro dn s w8 hS _ _
  have HG := Lib.hid (bOn6 HBW.out hS.b)
  clear hS DS0
  go_wp2_with fail
  go_ret
  exact ⟨rfl, HG.out⟩
def MinPost (w : World) (L : List Spl) (e : Ending) (w' : World) : Prop := ∃ sv s n, e = .returned (.agg #[sv, .int .i64 s.cross, .int .i64 s.dir, .int .i64 s.kind]) ∧ Bools w' sv s.side ∧ BestAt L n s ∧ Below w.heap.size w w'
/-- The loop's head. -/
def MinRel (w0 w : World) (L : List Spl) (mb : Nat) (iv : Value) (wr : World) : Prop := ∃ (k n : Nat) (s : Spl) (sv : Value), 1 ≤ k ∧ k ≤ L.length ∧ iv = .int .i64 k ∧ BestTo L n s k ∧ Bools w0 sv s.side ∧ Blk wr mb #[sv, .int .i64 s.cross, .int .i64 s.dir, .int .i64 s.kind] 36 ∧ Keep (fun b => b ≠ mb) w wr
set_option maxHeartbeats 8000000 in
set_option maxRecDepth 100000 in
theorem minfunc_is {w : World} {v : Value} {L : List Spl} (h : Spls w v L) (h0 : 0 < L.length) (hl : L.length ≤ 1000) (hs : ∀ (i : Nat) (x : Spl), L[i]? = some x → x.side.length ≤ 100000) :
    Calls Tryz.prog 25 #[v, .func (.func 26) #[] #[]] w (MinPost w L) := by
  obtain ⟨a, o, c, rfl, hc⟩ := h
  have h : Spls w (.slice (some ⟨a, o, none⟩) L.length c) L := ⟨a, o, c, rfl, hc⟩
  clear hc
  have HS := Lib.hid h
  have HSL := Lib.hid hs
  have HB := Lib.hid (Below.refl w.heap.size w)
  obtain ⟨x0, hx0⟩ : ∃ x, L[0]? = some x := ⟨_, List.getElem?_eq_getElem h0⟩
  obtain ⟨S0, C0, D0, K0⟩ := x0
  obtain ⟨sv0, hb0, p0, p1, p2, p3, pl⟩ := h.at4 hx0
  rw [Nat.zero_mul, Nat.add_zero] at p0 p1 p2 p3
  simp only at hb0 p1 p2 p3
  obtain ⟨q0, s0, rfl⟩ := hb0.shape
  have HX0 := Lib.hid hx0
  have HB0 := Lib.hid hb0
  obtain ⟨N0, hN0⟩ : ∃ n, S0.length = n := ⟨_, rfl⟩
  rw [hN0] at HB0 p0
  have h1 : ¬ (L.length : Int) < 1 := by omega
  have h2 : (0 : Int) < (L.length : Int) := by omega
  have HL := Lib.hid hl
  clear h hs hx0 hb0 hl hN0
  obtain ⟨x1, hx1⟩ := named (w.alloc (.cells #[.slice none 0 0, .int .i64 0, .int .i64 0, .int .i64 0] 36))
  have hb : Below w.heap.size w x1 := by rw [hx1]; exact below_alloc1 _
  obtain ⟨g1, hg1⟩ : ∃ g, w.heap.size = g := ⟨_, rfl⟩
  have kb : Blk x1 g1 #[.slice none 0 0, .int .i64 0, .int .i64 0, .int .i64 0] 36 := by rw [hx1]; exact Blk.new _ _ _ _ hg1
  have HB_ := Lib.hid (bOn6 HB.out hb)
  clear HB
  have HB := HB_
  clear HB_
  have KR := Lib.hid (kb)
  have e1 := hx1.symm
  have z1 : Hid (x1.heap.size = w.heap.size + 1) := Lib.hid (by rw [hx1]; simp)
  clear hb kb hx1
  have p0' := keep (below_alloc1 (w := w) (.cells #[.slice none 0 0, .int .i64 0, .int .i64 0, .int .i64 0] 36)) p0
  have p1' := keep (below_alloc1 (w := w) (.cells #[.slice none 0 0, .int .i64 0, .int .i64 0, .int .i64 0] 36)) p1
  have p2' := keep (below_alloc1 (w := w) (.cells #[.slice none 0 0, .int .i64 0, .int .i64 0, .int .i64 0] 36)) p2
  have p3' := keep (below_alloc1 (w := w) (.cells #[.slice none 0 0, .int .i64 0, .int .i64 0, .int .i64 0] 36)) p3
  rw [e1] at p0' p1' p2' p3'
  have pl' := World.block_lt_of_cell? _ _ p0'
  clear p0 p1 p2 p3 pl
  obtain ⟨x2, hx2⟩ := named (x1.alloc (.cells #[.slice q0 N0 s0, .int .i64 C0, .int .i64 D0, .int .i64 K0] 36))
  have hb : Below x1.heap.size x1 x2 := by rw [hx2]; exact below_alloc1 _
  obtain ⟨g2, hg2⟩ : ∃ g, x1.heap.size = g := ⟨_, rfl⟩
  have kb : Blk x2 g2 #[.slice q0 N0 s0, .int .i64 C0, .int .i64 D0, .int .i64 K0] 36 := by rw [hx2]; exact Blk.new _ _ _ _ hg2
  have HB_ := Lib.hid (bOn6 HB.out hb)
  have KR_ := Lib.hid (KR.out.keep hb)
  clear HB KR
  have HB := HB_
  have KR := KR_
  clear HB_ KR_
  have KM := Lib.hid (kb)
  have e2 := hx2.symm
  have z2 : Hid (x2.heap.size = x1.heap.size + 1) := Lib.hid (by rw [hx2]; simp)
  clear hb kb hx2
  go_enter Tryz.func25, Tryz.ntmps25
  have HG : Hid (w.heap.size ≤ g2 ∧ g1 ≠ g2) := Lib.hid ⟨by have := z1.out; omega, by have := z1.out; omega⟩
  go_wp2_with fail
  clear e1 e2 z1 z2
  clear p0' p1' p2' p3' pl' h1 h2
  go_loopw [6] (fun iv wr => MinRel w x2 L g2 iv wr) (fun iv _ => L.length - (intOf iv).toNat)
  case atStart => exact ⟨1, 0, _, _, Nat.le_refl _, h0, rfl, BestTo.one HX0.out, HB0.out, KM.out, Keep.refl _ _⟩
  case round =>
    obtain ⟨k, n, s, sv, hk1, hk, rfl, hbt, hsv, hm, hkp⟩ := hrel
    obtain ⟨S1, C1, D1, K1⟩ := s
    simp only at hsv hm
    obtain ⟨q1, s1, rfl⟩ := hsv.shape
    have HBK := Lib.hid (HB.out.trans (hkp.below (fun b hb => by have := HG.out.1; omega) HB.out.size))
    have HSW := Lib.hid (HS.out)
    have HLS := Lib.hid (HSL.out _ _ hbt.at')
    simp only at HLS
    have HBT := Lib.hid hbt
    have HSV := Lib.hid hsv
    have HM := Lib.hid hm
    have HKP := Lib.hid hkp
    have hki1 : (k : Int) ≤ (L.length : Int) := by omega
    have hki2 : (L.length : Int) ≤ 1000 := by have := HL.out; omega
    clear hbt hsv hm hkp HX0 HB0
    by_cases hlt : k < L.length
    case neg =>
      obtain rfl : k = L.length := by omega
      clear hlt
      have kr := HKP.out.blk KR.out HG.out.2
      obtain ⟨k0, k1, k2, k3, f0, f1, f2, f3⟩ := kr.o4
      have kl := kr.lt
      obtain ⟨m0, m1, m2, m3, -⟩ := HM.out.o4
      have ml := HM.out.lt
      have hkw := kr.set4 (.slice q1 S1.length s1) (.int .i64 C1) (.int .i64 D1) (.int .i64 K1)
      have hks := Keep.set4 (P := fun b => b ≠ g1) wr (b := g1) (by simp) (.slice q1 S1.length s1) (.int .i64 C1) (.int .i64 D1) (.int .i64 K1)
      obtain ⟨w9, hw9⟩ := named ((((wr.setCell ⟨g1, 0, none⟩ (.slice q1 S1.length s1)).setCell ⟨g1, 1, none⟩ (.int .i64 C1)).setCell ⟨g1, 2, none⟩ (.int .i64 D1)).setCell ⟨g1, 3, none⟩ (.int .i64 K1))
      rw [← hw9] at hkw hks
      have hbw : Below w.heap.size w w9 := HBK.out.trans (hks.below (fun b hb => by omega) HBK.out.size)
      have HP : Hid (MinPost w L (.returned (.agg #[.slice q1 S1.length s1, .int .i64 C1, .int .i64 D1, .int .i64 K1])) w9) := Lib.hid ⟨_, ⟨S1, C1, D1, K1⟩, n, rfl, HSV.out.below hbw, HBT.out.all, hbw⟩
      obtain ⟨r0, r1, r2, r3, -⟩ := hkw.o4
      clear hkw hks hbw kr
      go_wp2_with fail
      rw [← hw9]
      exact bodyPost_ret (v := .agg #[.slice q1 S1.length s1, .int .i64 C1, .int .i64 D1, .int .i64 K1]) (by simp [results, Tryz.results25, go_sem, r0, r1, r2, r3]) rfl HP.out
    have hki : (k : Int) < (L.length : Int) := by omega
    obtain ⟨x, hx⟩ : ∃ x, L[k]? = some x := ⟨_, List.getElem?_eq_getElem hlt⟩
    have hxs := HSL.out _ _ hx
    obtain ⟨XS, XC, XD, XK⟩ := x
    obtain ⟨xv, hxb, c0, c1, c2, c3, cl⟩ := HS.out.at4 hx
    simp only at hxb c1 c2 c3 hxs
    obtain ⟨xq, xc, rfl⟩ := hxb.shape
    have X0 := Lib.hid (keep HBK.out c0)
    have X1 := Lib.hid (keep HBK.out c1)
    have X2 := Lib.hid (keep HBK.out c2)
    have X3 := Lib.hid (keep HBK.out c3)
    have HXS := Lib.hid hxs
    have HXB := Lib.hid hxb
    have HX := Lib.hid hx
    have HK : Hid (k < L.length ∧ (k : Int) < (L.length : Int)) := Lib.hid ⟨hlt, hki⟩
    obtain ⟨r, hr⟩ : ∃ r, cmpS ⟨XS, XC, XD, XK⟩ ⟨S1, C1, D1, K1⟩ = r := ⟨_, rfl⟩
    have HR := Lib.hid hr
    obtain ⟨XN, hXN⟩ : ∃ n, XS.length = n := ⟨_, rfl⟩
    obtain ⟨SN, hSN⟩ : ∃ n, S1.length = n := ⟨_, rfl⟩
    rw [hXN] at HXB X0
    rw [hSN] at HSV HM
    clear hXN hSN
    have DS0 : Hid (GG.BelL wr (fun _ => false) () wr.drew) := Lib.hid ⟨(Below.refl _ _).drew⟩
    clear c0 c1 c2 c3 cl hxs hxb hx hr
    by_cases hneg : r < 0
    · go_wp2_with fail
      refine' GG.wp_growL _ (GG.BelL wr) [[], [], [], [1, 2], [1, 2, 3], [], [0, 1, 2, 3, 4, 5], [0, 1, 2, 3, 4, 5, 6]] (GG.Fact.lit (Rl := GG.RlL) _ :: GG.Fact.lit (Rl := GG.RlL) _ :: GG.Fact.lit (Rl := GG.RlL) _ :: GG.Fact.lit (Rl := GG.RlL) _ :: GG.Fact.lit (Rl := GG.RlL) _ :: GG.Fact.lit (Rl := GG.RlL) _ :: GG.Fact.lit (Rl := GG.RlL) _ :: GG.Fact.lit (Rl := GG.RlL) _ :: []) (by kernel_rfl) rfl (by kernel_rfl) (()) (DS0.out) ?seqmp
      case' seqmp => skip
      (refine' GG.grow_lit (GG.BelL.still) rfl ?wtmp0 ?runmp0 ?putmp0 ?nextmp0; (case wtmp0 => rfl); (case runmp0 => (intro w' hS; (obtain ⟨dn, s, hS⟩ := hS); (have x0 := keep hS.b X0.out); (have x1 := keep hS.b X1.out); (have x2 := keep hS.b X2.out); (have x3 := keep hS.b X3.out); (have xl := World.block_lt_of_cell? _ _ x0); (have m9 := HM.out.keep hS.b); (obtain ⟨m0, m1, m2, m3, -⟩ := m9.o4); (have ml := m9.lt); (obtain ⟨hlt, hki⟩ := HK.out); clear m9; clear hS; go_simp; first | done | exact rfl)); (case putmp0 => (first | (simp only [Act.put, List.setIfInBounds_toArray, List.set_cons_zero, List.set_cons_succ]; first | done | exact rfl) | rfl)); (case' nextmp0 => skip))
      (refine' GG.grow_lit (GG.BelL.still) rfl ?wtmp1 ?runmp1 ?putmp1 ?nextmp1; (case wtmp1 => rfl); (case runmp1 => (intro w' hS; (obtain ⟨dn, s, hS⟩ := hS); (have x0 := keep hS.b X0.out); (have x1 := keep hS.b X1.out); (have x2 := keep hS.b X2.out); (have x3 := keep hS.b X3.out); (have xl := World.block_lt_of_cell? _ _ x0); (have m9 := HM.out.keep hS.b); (obtain ⟨m0, m1, m2, m3, -⟩ := m9.o4); (have ml := m9.lt); (obtain ⟨hlt, hki⟩ := HK.out); clear m9; clear hS; go_simp; first | done | exact rfl)); (case putmp1 => (first | (simp only [Act.put, List.setIfInBounds_toArray, List.set_cons_zero, List.set_cons_succ]; first | done | exact rfl) | rfl)); (case' nextmp1 => skip))
      (refine' GG.grow_lit (GG.BelL.still) rfl ?wtmp2 ?runmp2 ?putmp2 ?nextmp2; (case wtmp2 => rfl); (case runmp2 => (intro w' hS; (obtain ⟨dn, s, hS⟩ := hS); (have x0 := keep hS.b X0.out); (have x1 := keep hS.b X1.out); (have x2 := keep hS.b X2.out); (have x3 := keep hS.b X3.out); (have xl := World.block_lt_of_cell? _ _ x0); (have m9 := HM.out.keep hS.b); (obtain ⟨m0, m1, m2, m3, -⟩ := m9.o4); (have ml := m9.lt); (obtain ⟨hlt, hki⟩ := HK.out); clear m9; clear hS; go_simp; first | done | exact rfl)); (case putmp2 => (first | (simp only [Act.put, List.setIfInBounds_toArray, List.set_cons_zero, List.set_cons_succ]; first | done | exact rfl) | rfl)); (case' nextmp2 => skip))
      (refine' GG.grow_lit (GG.BelL.still) rfl ?wtmp3 ?runmp3 ?putmp3 ?nextmp3; (case wtmp3 => rfl); (case runmp3 => (intro w' hS; (obtain ⟨dn, s, hS⟩ := hS); (have x0 := keep hS.b X0.out); (have x1 := keep hS.b X1.out); (have x2 := keep hS.b X2.out); (have x3 := keep hS.b X3.out); (have xl := World.block_lt_of_cell? _ _ x0); (have m9 := HM.out.keep hS.b); (obtain ⟨m0, m1, m2, m3, -⟩ := m9.o4); (have ml := m9.lt); (obtain ⟨hlt, hki⟩ := HK.out); clear m9; clear hS; go_simp; first | done | exact rfl)); (case putmp3 => (first | (simp only [Act.put, List.setIfInBounds_toArray, List.set_cons_zero, List.set_cons_succ]; first | done | exact rfl) | rfl)); (case' nextmp3 => skip))
      (refine' GG.grow_lit (GG.BelL.still) rfl ?wtmp4 ?runmp4 ?putmp4 ?nextmp4; (case wtmp4 => rfl); (case runmp4 => (intro w' hS; (obtain ⟨dn, s, hS⟩ := hS); (have x0 := keep hS.b X0.out); (have x1 := keep hS.b X1.out); (have x2 := keep hS.b X2.out); (have x3 := keep hS.b X3.out); (have xl := World.block_lt_of_cell? _ _ x0); (have m9 := HM.out.keep hS.b); (obtain ⟨m0, m1, m2, m3, -⟩ := m9.o4); (have ml := m9.lt); (obtain ⟨hlt, hki⟩ := HK.out); clear m9; clear hS; go_simp; first | done | exact rfl)); (case putmp4 => (first | (simp only [Act.put, List.setIfInBounds_toArray, List.set_cons_zero, List.set_cons_succ]; first | done | exact rfl) | rfl)); (case' nextmp4 => skip))
      (refine' GG.grow_lit (GG.BelL.still) rfl ?wtmp5 ?runmp5 ?putmp5 ?nextmp5; (case wtmp5 => rfl); (case runmp5 => (intro w' hS; (obtain ⟨dn, s, hS⟩ := hS); (have x0 := keep hS.b X0.out); (have x1 := keep hS.b X1.out); (have x2 := keep hS.b X2.out); (have x3 := keep hS.b X3.out); (have xl := World.block_lt_of_cell? _ _ x0); (have m9 := HM.out.keep hS.b); (obtain ⟨m0, m1, m2, m3, -⟩ := m9.o4); (have ml := m9.lt); (obtain ⟨hlt, hki⟩ := HK.out); clear m9; clear hS; go_simp; first | done | exact rfl)); (case putmp5 => (first | (simp only [Act.put, List.setIfInBounds_toArray, List.set_cons_zero, List.set_cons_succ]; first | done | exact rfl) | rfl)); (case' nextmp5 => skip))
      (refine' GG.grow_lit_callv (u := .int .i64 r) rfl ?evmp6 Tryz.func26 (by kernel_rfl) rfl rfl ?wtmp6 ?runmp6 ?putmp6 ?nextmp6; (case evmp6 => rfl); (case wtmp6 => rfl); (case runmp6 => (intro dn s w' hS hd H; exact (ccompare_is (HXB.out.below (bOn6 HBK.out hS.b)) (HSV.out.below (bOn6 HBK.out hS.b)) HXS.out HLS.out HR.out).mono (fun e w2 h => ⟨(), h.1, ⟨hS.b.trans (h.2.mono hS.b.size)⟩, h.2, h.2.size⟩))); (case putmp6 => (first | (simp only [Act.put, List.setIfInBounds_toArray, List.set_cons_zero, List.set_cons_succ]; first | done | exact rfl) | rfl)); (case' nextmp6 => skip))
      (refine' GG.grow_lit (GG.BelL.still) rfl ?wtmp7 ?runmp7 ?putmp7 ?nextmp7; (case wtmp7 => rfl); (case runmp7 => (intro w' hS; (obtain ⟨dn, s, hS⟩ := hS); (have x0 := keep hS.b X0.out); (have x1 := keep hS.b X1.out); (have x2 := keep hS.b X2.out); (have x3 := keep hS.b X3.out); (have xl := World.block_lt_of_cell? _ _ x0); (have m9 := HM.out.keep hS.b); (obtain ⟨m0, m1, m2, m3, -⟩ := m9.o4); (have ml := m9.lt); (obtain ⟨hlt, hki⟩ := HK.out); clear m9; clear hS; go_simp; first | done | exact rfl)); (case putmp7 => (first | (simp only [Act.put, List.setIfInBounds_toArray, List.set_cons_zero, List.set_cons_succ]; first | done | exact rfl) | rfl)); (case' nextmp7 => skip))
      intro dn s w8 hS _ _
      have hb := hS.b
      have HB8 := Lib.hid (bOn6 HBK.out hb)
      have HM8 := Lib.hid (HM.out.keep hb)
      have HK8 := Lib.hid (HKP.out.on (hb.mono HKP.out.size))
      clear hS DS0
      have hlt := HK.out.1
      have c0 := keep hb X0.out
      have c1 := keep hb X1.out
      have c2 := keep hb X2.out
      have c3 := keep hb X3.out
      have cl := World.block_lt_of_cell? _ _ c0
      obtain ⟨m0, m1, m2, m3, f0, f1, f2, f3⟩ := HM8.out.o4
      have ml := HM8.out.lt
      have hki := HK.out.2
      have hm2 := HM8.out.set4 (.slice xq XN xc) (.int .i64 XC) (.int .i64 XD) (.int .i64 XK)
      have hk2 := Keep.set4 (P := fun b => b ≠ g2) w8 (b := g2) (by simp) (.slice xq XN xc) (.int .i64 XC) (.int .i64 XD) (.int .i64 XK)
      obtain ⟨w9, hw9⟩ := named ((((w8.setCell ⟨g2, 0, none⟩ (.slice xq XN xc)).setCell ⟨g2, 1, none⟩ (.int .i64 XC)).setCell ⟨g2, 2, none⟩ (.int .i64 XD)).setCell ⟨g2, 3, none⟩ (.int .i64 XK))
      rw [← hw9] at hm2 hk2
      have HM9 := Lib.hid hm2
      have HK9 := Lib.hid (HK8.out.trans hk2)
      have HT := Lib.hid (HBT.out.take HX.out (by rw [HR.out]; exact hneg))
      clear hm2 hk2 hb
      go_wp2_with fail
      rw [← hw9]
      go_roundw
      case rel => exact ⟨k + 1, k, ⟨XS, XC, XD, XK⟩, _, by omega, hlt, by go_num, HT.out, HXB.out, HM9.out, HK9.out⟩
      case measure => simp [intOf]; omega
    · have d0 : decide (r < 0) = false := decide_eq_false hneg
      go_wp2_with fail
      refine' GG.wp_growL _ (GG.BelL wr) [[], [], [], [1, 2], [1, 2, 3], [], [0, 1, 2, 3, 4, 5], [0, 1, 2, 3, 4, 5, 6]] (GG.Fact.lit (Rl := GG.RlL) _ :: GG.Fact.lit (Rl := GG.RlL) _ :: GG.Fact.lit (Rl := GG.RlL) _ :: GG.Fact.lit (Rl := GG.RlL) _ :: GG.Fact.lit (Rl := GG.RlL) _ :: GG.Fact.lit (Rl := GG.RlL) _ :: GG.Fact.lit (Rl := GG.RlL) _ :: GG.Fact.lit (Rl := GG.RlL) _ :: []) (by kernel_rfl) rfl (by kernel_rfl) (()) (DS0.out) ?seqmn
      case' seqmn => skip
      (refine' GG.grow_lit (GG.BelL.still) rfl ?wtmn0 ?runmn0 ?putmn0 ?nextmn0; (case wtmn0 => rfl); (case runmn0 => (intro w' hS; (obtain ⟨dn, s, hS⟩ := hS); (have x0 := keep hS.b X0.out); (have x1 := keep hS.b X1.out); (have x2 := keep hS.b X2.out); (have x3 := keep hS.b X3.out); (have xl := World.block_lt_of_cell? _ _ x0); (have m9 := HM.out.keep hS.b); (obtain ⟨m0, m1, m2, m3, -⟩ := m9.o4); (have ml := m9.lt); (obtain ⟨hlt, hki⟩ := HK.out); clear m9; clear hS; go_simp; first | done | exact rfl)); (case putmn0 => (first | (simp only [Act.put, List.setIfInBounds_toArray, List.set_cons_zero, List.set_cons_succ]; first | done | exact rfl) | rfl)); (case' nextmn0 => skip))
      (refine' GG.grow_lit (GG.BelL.still) rfl ?wtmn1 ?runmn1 ?putmn1 ?nextmn1; (case wtmn1 => rfl); (case runmn1 => (intro w' hS; (obtain ⟨dn, s, hS⟩ := hS); (have x0 := keep hS.b X0.out); (have x1 := keep hS.b X1.out); (have x2 := keep hS.b X2.out); (have x3 := keep hS.b X3.out); (have xl := World.block_lt_of_cell? _ _ x0); (have m9 := HM.out.keep hS.b); (obtain ⟨m0, m1, m2, m3, -⟩ := m9.o4); (have ml := m9.lt); (obtain ⟨hlt, hki⟩ := HK.out); clear m9; clear hS; go_simp; first | done | exact rfl)); (case putmn1 => (first | (simp only [Act.put, List.setIfInBounds_toArray, List.set_cons_zero, List.set_cons_succ]; first | done | exact rfl) | rfl)); (case' nextmn1 => skip))
      (refine' GG.grow_lit (GG.BelL.still) rfl ?wtmn2 ?runmn2 ?putmn2 ?nextmn2; (case wtmn2 => rfl); (case runmn2 => (intro w' hS; (obtain ⟨dn, s, hS⟩ := hS); (have x0 := keep hS.b X0.out); (have x1 := keep hS.b X1.out); (have x2 := keep hS.b X2.out); (have x3 := keep hS.b X3.out); (have xl := World.block_lt_of_cell? _ _ x0); (have m9 := HM.out.keep hS.b); (obtain ⟨m0, m1, m2, m3, -⟩ := m9.o4); (have ml := m9.lt); (obtain ⟨hlt, hki⟩ := HK.out); clear m9; clear hS; go_simp; first | done | exact rfl)); (case putmn2 => (first | (simp only [Act.put, List.setIfInBounds_toArray, List.set_cons_zero, List.set_cons_succ]; first | done | exact rfl) | rfl)); (case' nextmn2 => skip))
      (refine' GG.grow_lit (GG.BelL.still) rfl ?wtmn3 ?runmn3 ?putmn3 ?nextmn3; (case wtmn3 => rfl); (case runmn3 => (intro w' hS; (obtain ⟨dn, s, hS⟩ := hS); (have x0 := keep hS.b X0.out); (have x1 := keep hS.b X1.out); (have x2 := keep hS.b X2.out); (have x3 := keep hS.b X3.out); (have xl := World.block_lt_of_cell? _ _ x0); (have m9 := HM.out.keep hS.b); (obtain ⟨m0, m1, m2, m3, -⟩ := m9.o4); (have ml := m9.lt); (obtain ⟨hlt, hki⟩ := HK.out); clear m9; clear hS; go_simp; first | done | exact rfl)); (case putmn3 => (first | (simp only [Act.put, List.setIfInBounds_toArray, List.set_cons_zero, List.set_cons_succ]; first | done | exact rfl) | rfl)); (case' nextmn3 => skip))
      (refine' GG.grow_lit (GG.BelL.still) rfl ?wtmn4 ?runmn4 ?putmn4 ?nextmn4; (case wtmn4 => rfl); (case runmn4 => (intro w' hS; (obtain ⟨dn, s, hS⟩ := hS); (have x0 := keep hS.b X0.out); (have x1 := keep hS.b X1.out); (have x2 := keep hS.b X2.out); (have x3 := keep hS.b X3.out); (have xl := World.block_lt_of_cell? _ _ x0); (have m9 := HM.out.keep hS.b); (obtain ⟨m0, m1, m2, m3, -⟩ := m9.o4); (have ml := m9.lt); (obtain ⟨hlt, hki⟩ := HK.out); clear m9; clear hS; go_simp; first | done | exact rfl)); (case putmn4 => (first | (simp only [Act.put, List.setIfInBounds_toArray, List.set_cons_zero, List.set_cons_succ]; first | done | exact rfl) | rfl)); (case' nextmn4 => skip))
      (refine' GG.grow_lit (GG.BelL.still) rfl ?wtmn5 ?runmn5 ?putmn5 ?nextmn5; (case wtmn5 => rfl); (case runmn5 => (intro w' hS; (obtain ⟨dn, s, hS⟩ := hS); (have x0 := keep hS.b X0.out); (have x1 := keep hS.b X1.out); (have x2 := keep hS.b X2.out); (have x3 := keep hS.b X3.out); (have xl := World.block_lt_of_cell? _ _ x0); (have m9 := HM.out.keep hS.b); (obtain ⟨m0, m1, m2, m3, -⟩ := m9.o4); (have ml := m9.lt); (obtain ⟨hlt, hki⟩ := HK.out); clear m9; clear hS; go_simp; first | done | exact rfl)); (case putmn5 => (first | (simp only [Act.put, List.setIfInBounds_toArray, List.set_cons_zero, List.set_cons_succ]; first | done | exact rfl) | rfl)); (case' nextmn5 => skip))
      (refine' GG.grow_lit_callv (u := .int .i64 r) rfl ?evmn6 Tryz.func26 (by kernel_rfl) rfl rfl ?wtmn6 ?runmn6 ?putmn6 ?nextmn6; (case evmn6 => rfl); (case wtmn6 => rfl); (case runmn6 => (intro dn s w' hS hd H; exact (ccompare_is (HXB.out.below (bOn6 HBK.out hS.b)) (HSV.out.below (bOn6 HBK.out hS.b)) HXS.out HLS.out HR.out).mono (fun e w2 h => ⟨(), h.1, ⟨hS.b.trans (h.2.mono hS.b.size)⟩, h.2, h.2.size⟩))); (case putmn6 => (first | (simp only [Act.put, List.setIfInBounds_toArray, List.set_cons_zero, List.set_cons_succ]; first | done | exact rfl) | rfl)); (case' nextmn6 => skip))
      (refine' GG.grow_lit (GG.BelL.still) rfl ?wtmn7 ?runmn7 ?putmn7 ?nextmn7; (case wtmn7 => rfl); (case runmn7 => (intro w' hS; (obtain ⟨dn, s, hS⟩ := hS); (have x0 := keep hS.b X0.out); (have x1 := keep hS.b X1.out); (have x2 := keep hS.b X2.out); (have x3 := keep hS.b X3.out); (have xl := World.block_lt_of_cell? _ _ x0); (have m9 := HM.out.keep hS.b); (obtain ⟨m0, m1, m2, m3, -⟩ := m9.o4); (have ml := m9.lt); (obtain ⟨hlt, hki⟩ := HK.out); clear m9; clear hS; go_simp; first | done | exact rfl)); (case putmn7 => (first | (simp only [Act.put, List.setIfInBounds_toArray, List.set_cons_zero, List.set_cons_succ]; first | done | exact rfl) | rfl)); (case' nextmn7 => skip))
      intro dn s w8 hS _ _
      have hb := hS.b
      have HB8 := Lib.hid (bOn6 HBK.out hb)
      have HM8 := Lib.hid (HM.out.keep hb)
      have HK8 := Lib.hid (HKP.out.on (hb.mono HKP.out.size))
      clear hS DS0
      have hlt := HK.out.1
      have HT := Lib.hid (HBT.out.stay HX.out (by rw [HR.out]; omega))
      clear hb
      go_wp2_with fail
      go_roundw
      case rel => exact ⟨k + 1, n, ⟨S1, C1, D1, K1⟩, _, by omega, hlt, by go_num, HT.out, HSV.out, HM8.out, HK8.out⟩
      case measure => simp [intOf]; omega
end Go.Proofs.YthfljimgpcignaaGreatDoor

/-
  The three splits of one way: the program's along.
-/
namespace Go.Proofs.YthfljimgpcignaaGreatDoor
open Go.RowKit Go.Sort

theorem zN_src (o : List Nat) : (zN o).take (endN (zN o).length) = zN (srcL o) := by simp [zN, srcL, List.map_take]
theorem zN_dst (o : List Nat) : (zN o).drop ((zN o).length - endN (zN o).length) = zN (dstL o) := by simp [zN, dstL, List.map_drop]
theorem zN_hlf (o : List Nat) : (zN o).take (((zN o).length + 1) / 2) = zN (hlfL o) := by simp [zN, hlfL, List.map_take]
theorem edgIn_of {N : Nat} {E : Edg} (h : ∀ x, x ∈ zE E → zPair N x) : EdgIn N E := by
  intro i hi
  have := h _ (List.getElem_mem (show i < (zE E).length by rw [zE_len]; exact hi))
  rw [zE_at] at this
  obtain ⟨⟨-, a⟩, -, b⟩ := this
  simp only at a b
  exact ⟨by omega, by omega⟩
theorem OkC.small {l es : List (Int × Int)} (h : OkC l es) : SmallL l := fun x hx => by
  have a := coordB_in (h.p x hx).1
  have b := coordB_in (h.p x hx).2
  exact ⟨⟨by omega, by omega⟩, by omega, by omega⟩
/-- Splits side by side in one block. -/
def flatS : List (Value × Spl) → List Value
  | [] => []
  | x :: r => x.1 :: .int .i64 x.2.cross :: .int .i64 x.2.dir :: .int .i64 x.2.kind :: flatS r
def AlongPost (w : World) (l : List (Int × Int)) (E : Edg) (d : Nat) (e : Ending) (w' : World) : Prop :=
  ∃ g nv gv hv a b c, e = .returned (.tuple #[.slice (some ⟨g, 0, none⟩) 3 3, .nilIface]) ∧ Blk w' g (flatS [(nv, a), (gv, b), (hv, c)]).toArray 36 ∧ WayQ l E d a b c ∧
    (Bools w' nv a.side ∧ Av (fun b => w.heap.size ≤ b) nv) ∧ (Bools w' gv b.side ∧ Av (fun b => w.heap.size ≤ b) gv) ∧ (Bools w' hv c.side ∧ Av (fun b => w.heap.size ≤ b) hv) ∧ Below w.heap.size w w'
def Trip (cs : Array Value) (v : Value) (_ : Unit) (w : World) : Prop := ∃ g, v = .slice (some ⟨g, 0, none⟩) 3 3 ∧ Blk w g cs 36
theorem Trip.st {cs : Array Value} (v : Value) (s : Unit) (w : World) (s' : Unit) (w' : World) (h : Trip cs v s w) (hr : GG.RlL s w s' w') : Trip cs v s' w' := by
  obtain ⟨g, e, hk⟩ := h
  exact ⟨g, e, hk.keep hr⟩
set_option maxHeartbeats 8000000 in
set_option maxRecDepth 100000 in
theorem calong_is {w : World} {pv ev : Value} {l : List (Int × Int)} {E : Edg} {d : Nat} (hp : Prs w pv l) (he : Prs w ev (zE E)) (hok : OkC l (zE E)) :
    Calls Tryz.prog 19 #[pv, ev, .int .i64 d] w (AlongPost w l E d) := by
  have HSM := Lib.hid hok.small
  have HEI := Lib.hid (edgIn_of hok.e)
  have HLE : Hid (E.length ≤ 16384) := Lib.hid (by have := hok.edges; rwa [zE_len] at this)
  have HLL := Lib.hid hok.most
  obtain ⟨N, hN⟩ : ∃ N, l.length = N := ⟨_, rfl⟩
  obtain ⟨pq, pc, rfl⟩ := hp.shape
  obtain ⟨eq0, ec0, rfl⟩ := he.shape
  have HP := Lib.hid hp
  have HE := Lib.hid he
  have HB := Lib.hid (Below.refl w.heap.size w)
  have HN := Lib.hid hN
  rw [hN] at HEI HLL HP ⊢
  clear hp he hok hN
  go_enter Tryz.func19, Tryz.ntmps19
  go_wp2_with fail
  refine (order_is HP.out HSM.out (by rw [HN.out]; have := HLL.out; omega)).mono ?_
  rintro e w1 ⟨go, o, rfl, ho, hk, hgo, hb⟩
  have HO := Lib.hid ho
  have hon := ho.len
  rw [HN.out] at hon
  have HON := Lib.hid hon
  have HI := Lib.hid (i64s_of_blk (l := zN o) (N := N) hk (by rw [zN_len, HON.out]) (by have := HLL.out; omega))
  rw [HN.out]
  clear ho hk hgo hon
  have HP_ := Lib.hid (HP.out.below hb)
  have HE_ := Lib.hid (HE.out.below hb)
  have HB_ := Lib.hid (bOn6 HB.out hb)
  clear HP HE HB
  have HP := HP_
  have HE := HE_
  have HB := HB_
  clear HP_ HE_ HB_
  clear hb
  go_wp2_with fail
  refine (ends_is HI.out (by rw [zN_len, HON.out]; have := HLL.out; omega)).mono ?_
  rintro e w2 ⟨q1, c1, q2, c2, rfl, hs, hd, hb⟩
  obtain ⟨M, hM⟩ : ∃ M, endN (zN o).length = M := ⟨_, rfl⟩
  rw [zN_src] at hs
  rw [zN_dst] at hd
  rw [hM] at hs hd ⊢
  have HS := Lib.hid hs
  have HD := Lib.hid hd
  clear hs hd hM
  have HP_ := Lib.hid (HP.out.below hb)
  have HE_ := Lib.hid (HE.out.below hb)
  have HB_ := Lib.hid (bOn6 HB.out hb)
  have HI_ := Lib.hid (HI.out.below hb)
  clear HP HE HB HI
  have HP := HP_
  have HE := HE_
  have HB := HB_
  have HI := HI_
  clear HP_ HE_ HB_ HI_
  clear hb
  have HSL : Hid (∀ x, x ∈ srcL o → x < N) := Lib.hid fun x hx => by have := HO.out.src_lt hx; rwa [HN.out] at this
  have HDL : Hid (∀ x, x ∈ dstL o → x < N) := Lib.hid fun x hx => by have := HO.out.dst_lt hx; rwa [HN.out] at this
  have HLS : Hid ((srcL o).length ≤ 1000000 ∧ (dstL o).length ≤ 1000000) := Lib.hid (by have := HLL.out; have := HON.out; simp only [srcL, dstL, List.length_take, List.length_drop]; omega)
  go_wp2_with fail
  refine (maxF_is (N := N) (E := E) (S := srcL o) (D := dstL o) HE.out HS.out HD.out HLL.out HLE.out HLS.out.1 HLS.out.2 (okA_of HEI.out HSL.out HDL.out) HEI.out HSL.out HDL.out).mono ?_
  rintro e w3 ⟨hb, ⟨-, V, f, near, far, fv, nv, gv, rfl, hf, hn, hg, hq, han, hag⟩ | ⟨htw, -⟩⟩
  case inr => exact absurd htw HO.out.once2
  have HQ := Lib.hid (hq.maxQ HEI.out)
  have HNL := Lib.hid (And.intro hq.nl hq.gl)
  obtain ⟨fq, fc, rfl⟩ := hf.shape
  obtain ⟨nq, nc, rfl⟩ := hn.shapeN hq.nl
  obtain ⟨gq, gc, rfl⟩ := hg.shapeN hq.gl
  generalize f.length = FL at *
  have HNB := Lib.hid hn
  have HGB := Lib.hid hg
  have HAN := Lib.hid (han.mono fun b hb2 => Nat.le_trans HB.out.size hb2)
  have HAG := Lib.hid (hag.mono fun b hb2 => Nat.le_trans HB.out.size hb2)
  clear hf hn hg hq han hag HS HD
  have HP_ := Lib.hid (HP.out.below hb)
  have HE_ := Lib.hid (HE.out.below hb)
  have HB_ := Lib.hid (bOn6 HB.out hb)
  have HI_ := Lib.hid (HI.out.below hb)
  clear HP HE HB HI
  have HP := HP_
  have HE := HE_
  have HB := HB_
  have HI := HI_
  clear HP_ HE_ HB_ HI_
  clear hb
  obtain ⟨x1, hx1⟩ := named (w3.alloc (.cells #[.int .i64 V, .slice fq FL fc, .slice nq N nc, .slice gq N gc] 72))
  have hb : Below w3.heap.size w3 x1 := by rw [hx1]; exact below_alloc1 _
  obtain ⟨g1, hg1⟩ : ∃ g, w3.heap.size = g := ⟨_, rfl⟩
  have kb : Blk x1 g1 #[.int .i64 V, .slice fq FL fc, .slice nq N nc, .slice gq N gc] 72 := by rw [hx1]; exact Blk.new _ _ _ _ hg1
  have HP_ := Lib.hid (HP.out.below hb)
  have HE_ := Lib.hid (HE.out.below hb)
  have HB_ := Lib.hid (bOn6 HB.out hb)
  have HI_ := Lib.hid (HI.out.below hb)
  have HNB_ := Lib.hid (HNB.out.below hb)
  have HGB_ := Lib.hid (HGB.out.below hb)
  clear HP HE HB HI HNB HGB
  have HP := HP_
  have HE := HE_
  have HB := HB_
  have HI := HI_
  have HNB := HNB_
  have HGB := HGB_
  clear HP_ HE_ HB_ HI_ HNB_ HGB_
  have KR := Lib.hid (kb)
  have e1 := hx1.symm
  have z1 : Hid (x1.heap.size = w3.heap.size + 1) := Lib.hid (by rw [hx1]; simp)
  clear hb kb hx1
  go_wp2_with fail
  clear e1 z1
  obtain ⟨MH, hMH⟩ : ∃ MH, ((zN o).length + 1) / 2 = MH := ⟨_, rfl⟩
  have HMH := Lib.hid hMH
  clear hMH
  refine (half_is HI.out (by rw [zN_len, HON.out]; have := HLL.out; omega) HMH.out).mono ?_
  rintro e w4 ⟨q3, c3, rfl, h3, hb⟩
  rw [show (zN o).take MH = zN (hlfL o) from by rw [← HMH.out]; exact zN_hlf o] at h3
  have H3 := Lib.hid h3
  clear h3
  have HP_ := Lib.hid (HP.out.below hb)
  have HE_ := Lib.hid (HE.out.below hb)
  have HB_ := Lib.hid (bOn6 HB.out hb)
  have HI_ := Lib.hid (HI.out.below hb)
  have HNB_ := Lib.hid (HNB.out.below hb)
  have HGB_ := Lib.hid (HGB.out.below hb)
  have KR_ := Lib.hid (KR.out.keep hb)
  clear HP HE HB HI HNB HGB KR
  have HP := HP_
  have HE := HE_
  have HB := HB_
  have HI := HI_
  have HNB := HNB_
  have HGB := HGB_
  have KR := KR_
  clear HP_ HE_ HB_ HI_ HNB_ HGB_ KR_
  clear hb
  have HHL : Hid (∀ x, x ∈ hlfL o → x < N) := Lib.hid fun x hx => by have := HO.out.mem (List.mem_of_mem_take hx); rwa [HN.out] at this
  have HHN : Hid ((hlfL o).length ≤ 1000000) := Lib.hid (by have := HLL.out; have := HON.out; simp only [hlfL, List.length_take]; omega)
  obtain ⟨gm, hgm⟩ : ∃ gm, w4.heap.size = gm := ⟨_, rfl⟩
  go_wp2_with fail
  refine (cmarks_is (N := N) (S := hlfL o) H3.out HHL.out HLL.out HHN.out).mono ?_
  rintro e w5 ⟨rfl, hkm, hb⟩
  rw [hgm] at hkm ⊢
  have HMB := Lib.hid (bools_of_blk hkm markL_len (by have := HLL.out; omega))
  have HAM : Hid (Av (fun b => w.heap.size ≤ b) (.slice (some ⟨gm, 0, none⟩) N N)) := Lib.hid (Av.at (by rw [← hgm]; exact HB.out.size))
  clear hkm HI H3
  have HP_ := Lib.hid (HP.out.below hb)
  have HE_ := Lib.hid (HE.out.below hb)
  have HB_ := Lib.hid (bOn6 HB.out hb)
  have HNB_ := Lib.hid (HNB.out.below hb)
  have HGB_ := Lib.hid (HGB.out.below hb)
  have KR_ := Lib.hid (KR.out.keep hb)
  clear HP HE HB HNB HGB KR
  have HP := HP_
  have HE := HE_
  have HB := HB_
  have HNB := HNB_
  have HGB := HGB_
  have KR := KR_
  clear HP_ HE_ HB_ HNB_ HGB_ KR_
  clear hb
  clear hgm
  obtain ⟨CH, hCH⟩ : ∃ CH, crossS (setB (markL N (hlfL o))) E = CH := ⟨_, rfl⟩
  have HCH := Lib.hid hCH
  have HNV := Lib.hid HQ.out.nearV
  have HFV := Lib.hid HQ.out.farV
  have DS0 : Hid (GG.BelL w5 (fun _ => false) () w5.drew) := Lib.hid ⟨(Below.refl _ _).drew⟩
  clear hCH
  go_wp2_with fail
  refine' GG.wp_growL _ (GG.BelL w5) [[], [0], [], [2], [], [2, 3, 4], [], [0, 1, 2, 3, 4, 5, 6], [], [8], [], [10], [], [2, 3, 4, 5, 10, 11, 12], [], [2, 3, 4, 5, 8, 9, 10, 11, 12, 13, 14], [], [], [], [2, 3, 4, 5, 10, 11, 12, 13, 17, 18], [], [2, 3, 4, 5, 10, 11, 12, 13, 16, 17, 18, 19, 20], [0, 1, 2, 3, 4, 5, 6, 7, 8, 9, 10, 11, 12, 13, 14, 15, 16, 17, 18, 19, 20, 21], [0, 1, 2, 3, 4, 5, 6, 7, 8, 9, 10, 11, 12, 13, 14, 15, 16, 17, 18, 19, 20, 21, 22], [0, 1, 2, 3, 4, 5, 6, 7, 8, 9, 10, 11, 12, 13, 14, 15, 16, 17, 18, 19, 20, 21, 22, 23]] (GG.Fact.lit (Rl := GG.RlL) _ :: GG.Fact.lit (Rl := GG.RlL) _ :: GG.Fact.lit (Rl := GG.RlL) _ :: GG.Fact.lit (Rl := GG.RlL) _ :: GG.Fact.lit (Rl := GG.RlL) _ :: GG.Fact.lit (Rl := GG.RlL) _ :: GG.Fact.lit (Rl := GG.RlL) _ :: GG.Fact.lit (Rl := GG.RlL) _ :: GG.Fact.lit (Rl := GG.RlL) _ :: GG.Fact.lit (Rl := GG.RlL) _ :: GG.Fact.lit (Rl := GG.RlL) _ :: GG.Fact.lit (Rl := GG.RlL) _ :: GG.Fact.lit (Rl := GG.RlL) _ :: GG.Fact.lit (Rl := GG.RlL) _ :: GG.Fact.lit (Rl := GG.RlL) _ :: GG.Fact.lit (Rl := GG.RlL) _ :: GG.Fact.lit (Rl := GG.RlL) _ :: GG.Fact.lit (Rl := GG.RlL) _ :: GG.Fact.lit (Rl := GG.RlL) _ :: GG.Fact.lit (Rl := GG.RlL) _ :: GG.Fact.lit (Rl := GG.RlL) _ :: GG.Fact.lit (Rl := GG.RlL) _ :: GG.Fact.prop (Rl := GG.RlL) _ _ :: GG.Fact.prop (Rl := GG.RlL) _ _ :: GG.Fact.lit (Rl := GG.RlL) _ :: []) (by kernel_rfl) rfl (by kernel_rfl) (()) (DS0.out) ?seqal
  case' seqal => skip
  (refine' GG.grow_lit (GG.BelL.still) rfl ?wtal0 ?runal0 ?putal0 ?nextal0; (case wtal0 => rfl); (case runal0 => (intro w' hS; (obtain ⟨dn, s, hS⟩ := hS); (have kr := KR.out.keep hS.b); (obtain ⟨p0, p1, p2, p3, -⟩ := kr.o4); (have pl := kr.lt); clear kr hS; go_simp; first | done | exact rfl)); (case putal0 => (first | (simp only [Act.put, List.setIfInBounds_toArray, List.set_cons_zero, List.set_cons_succ]; first | done | exact rfl) | rfl)); (case' nextal0 => skip))
  (refine' GG.grow_lit (GG.BelL.still) rfl ?wtal1 ?runal1 ?putal1 ?nextal1; (case wtal1 => rfl); (case runal1 => (intro w' hS; (obtain ⟨dn, s, hS⟩ := hS); (have kr := KR.out.keep hS.b); (obtain ⟨p0, p1, p2, p3, -⟩ := kr.o4); (have pl := kr.lt); clear kr hS; go_simp; first | done | exact rfl)); (case putal1 => (first | (simp only [Act.put, List.setIfInBounds_toArray, List.set_cons_zero, List.set_cons_succ]; first | done | exact rfl) | rfl)); (case' nextal1 => skip))
  (refine' GG.grow_lit (GG.BelL.still) rfl ?wtal2 ?runal2 ?putal2 ?nextal2; (case wtal2 => rfl); (case runal2 => (intro w' hS; (obtain ⟨dn, s, hS⟩ := hS); (have kr := KR.out.keep hS.b); (obtain ⟨p0, p1, p2, p3, -⟩ := kr.o4); (have pl := kr.lt); clear kr hS; go_simp; first | done | exact rfl)); (case putal2 => (first | (simp only [Act.put, List.setIfInBounds_toArray, List.set_cons_zero, List.set_cons_succ]; first | done | exact rfl) | rfl)); (case' nextal2 => skip))
  (refine' GG.grow_lit (GG.BelL.still) rfl ?wtal3 ?runal3 ?putal3 ?nextal3; (case wtal3 => rfl); (case runal3 => (intro w' hS; (obtain ⟨dn, s, hS⟩ := hS); (have kr := KR.out.keep hS.b); (obtain ⟨p0, p1, p2, p3, -⟩ := kr.o4); (have pl := kr.lt); clear kr hS; go_simp; first | done | exact rfl)); (case putal3 => (first | (simp only [Act.put, List.setIfInBounds_toArray, List.set_cons_zero, List.set_cons_succ]; first | done | exact rfl) | rfl)); (case' nextal3 => skip))
  (refine' GG.grow_lit (GG.BelL.still) rfl ?wtal4 ?runal4 ?putal4 ?nextal4; (case wtal4 => rfl); (case runal4 => (intro w' hS; (obtain ⟨dn, s, hS⟩ := hS); (have kr := KR.out.keep hS.b); (obtain ⟨p0, p1, p2, p3, -⟩ := kr.o4); (have pl := kr.lt); clear kr hS; go_simp; first | done | exact rfl)); (case putal4 => (first | (simp only [Act.put, List.setIfInBounds_toArray, List.set_cons_zero, List.set_cons_succ]; first | done | exact rfl) | rfl)); (case' nextal4 => skip))
  (refine' GG.grow_lit_call (u := .int .i64 V) rfl Tryz.func9 (by kernel_rfl) rfl rfl ?wtal5 ?runal5 ?putal5 ?nextal5; (case wtal5 => rfl); (case runal5 => (intro dn s w' hS hd H; exact (ccross_is _ _ _ near E (HNB.out.below hS.b) (HE.out.below hS.b) HLE.out).mono (fun e w2 h => ⟨(), by rw [h.1, HNV.out], ⟨hS.b.trans (h.2.mono hS.b.size)⟩, h.2, h.2.size⟩))); (case putal5 => (first | (simp only [Act.put, List.setIfInBounds_toArray, List.set_cons_zero, List.set_cons_succ]; first | done | exact rfl) | rfl)); (case' nextal5 => skip))
  (refine' GG.grow_lit (GG.BelL.still) rfl ?wtal6 ?runal6 ?putal6 ?nextal6; (case wtal6 => rfl); (case runal6 => (intro w' hS; (obtain ⟨dn, s, hS⟩ := hS); (have kr := KR.out.keep hS.b); (obtain ⟨p0, p1, p2, p3, -⟩ := kr.o4); (have pl := kr.lt); clear kr hS; go_simp; first | done | exact rfl)); (case putal6 => (first | (simp only [Act.put, List.setIfInBounds_toArray, List.set_cons_zero, List.set_cons_succ]; first | done | exact rfl) | rfl)); (case' nextal6 => skip))
  (refine' GG.grow_lit (GG.BelL.still) rfl ?wtal7 ?runal7 ?putal7 ?nextal7; (case wtal7 => rfl); (case runal7 => (intro w' hS; (obtain ⟨dn, s, hS⟩ := hS); (have kr := KR.out.keep hS.b); (obtain ⟨p0, p1, p2, p3, -⟩ := kr.o4); (have pl := kr.lt); clear kr hS; go_simp; first | done | exact rfl)); (case putal7 => (first | (simp only [Act.put, List.setIfInBounds_toArray, List.set_cons_zero, List.set_cons_succ]; first | done | exact rfl) | rfl)); (case' nextal7 => skip))
  (refine' GG.grow_lit (GG.BelL.still) rfl ?wtal8 ?runal8 ?putal8 ?nextal8; (case wtal8 => rfl); (case runal8 => (intro w' hS; (obtain ⟨dn, s, hS⟩ := hS); (have kr := KR.out.keep hS.b); (obtain ⟨p0, p1, p2, p3, -⟩ := kr.o4); (have pl := kr.lt); clear kr hS; go_simp; first | done | exact rfl)); (case putal8 => (first | (simp only [Act.put, List.setIfInBounds_toArray, List.set_cons_zero, List.set_cons_succ]; first | done | exact rfl) | rfl)); (case' nextal8 => skip))
  (refine' GG.grow_lit (GG.BelL.still) rfl ?wtal9 ?runal9 ?putal9 ?nextal9; (case wtal9 => rfl); (case runal9 => (intro w' hS; (obtain ⟨dn, s, hS⟩ := hS); (have kr := KR.out.keep hS.b); (obtain ⟨p0, p1, p2, p3, -⟩ := kr.o4); (have pl := kr.lt); clear kr hS; go_simp; first | done | exact rfl)); (case putal9 => (first | (simp only [Act.put, List.setIfInBounds_toArray, List.set_cons_zero, List.set_cons_succ]; first | done | exact rfl) | rfl)); (case' nextal9 => skip))
  (refine' GG.grow_lit (GG.BelL.still) rfl ?wtal10 ?runal10 ?putal10 ?nextal10; (case wtal10 => rfl); (case runal10 => (intro w' hS; (obtain ⟨dn, s, hS⟩ := hS); (have kr := KR.out.keep hS.b); (obtain ⟨p0, p1, p2, p3, -⟩ := kr.o4); (have pl := kr.lt); clear kr hS; go_simp; first | done | exact rfl)); (case putal10 => (first | (simp only [Act.put, List.setIfInBounds_toArray, List.set_cons_zero, List.set_cons_succ]; first | done | exact rfl) | rfl)); (case' nextal10 => skip))
  (refine' GG.grow_lit (GG.BelL.still) rfl ?wtal11 ?runal11 ?putal11 ?nextal11; (case wtal11 => rfl); (case runal11 => (intro w' hS; (obtain ⟨dn, s, hS⟩ := hS); (have kr := KR.out.keep hS.b); (obtain ⟨p0, p1, p2, p3, -⟩ := kr.o4); (have pl := kr.lt); clear kr hS; go_simp; first | done | exact rfl)); (case putal11 => (first | (simp only [Act.put, List.setIfInBounds_toArray, List.set_cons_zero, List.set_cons_succ]; first | done | exact rfl) | rfl)); (case' nextal11 => skip))
  (refine' GG.grow_lit (GG.BelL.still) rfl ?wtal12 ?runal12 ?putal12 ?nextal12; (case wtal12 => rfl); (case runal12 => (intro w' hS; (obtain ⟨dn, s, hS⟩ := hS); (have kr := KR.out.keep hS.b); (obtain ⟨p0, p1, p2, p3, -⟩ := kr.o4); (have pl := kr.lt); clear kr hS; go_simp; first | done | exact rfl)); (case putal12 => (first | (simp only [Act.put, List.setIfInBounds_toArray, List.set_cons_zero, List.set_cons_succ]; first | done | exact rfl) | rfl)); (case' nextal12 => skip))
  (refine' GG.grow_lit_call (u := .int .i64 V) rfl Tryz.func9 (by kernel_rfl) rfl rfl ?wtal13 ?runal13 ?putal13 ?nextal13; (case wtal13 => rfl); (case runal13 => (intro dn s w' hS hd H; exact (ccross_is _ _ _ far E (HGB.out.below hS.b) (HE.out.below hS.b) HLE.out).mono (fun e w2 h => ⟨(), by rw [h.1, HFV.out], ⟨hS.b.trans (h.2.mono hS.b.size)⟩, h.2, h.2.size⟩))); (case putal13 => (first | (simp only [Act.put, List.setIfInBounds_toArray, List.set_cons_zero, List.set_cons_succ]; first | done | exact rfl) | rfl)); (case' nextal13 => skip))
  (refine' GG.grow_lit (GG.BelL.still) rfl ?wtal14 ?runal14 ?putal14 ?nextal14; (case wtal14 => rfl); (case runal14 => (intro w' hS; (obtain ⟨dn, s, hS⟩ := hS); (have kr := KR.out.keep hS.b); (obtain ⟨p0, p1, p2, p3, -⟩ := kr.o4); (have pl := kr.lt); clear kr hS; go_simp; first | done | exact rfl)); (case putal14 => (first | (simp only [Act.put, List.setIfInBounds_toArray, List.set_cons_zero, List.set_cons_succ]; first | done | exact rfl) | rfl)); (case' nextal14 => skip))
  (refine' GG.grow_lit (GG.BelL.still) rfl ?wtal15 ?runal15 ?putal15 ?nextal15; (case wtal15 => rfl); (case runal15 => (intro w' hS; (obtain ⟨dn, s, hS⟩ := hS); (have kr := KR.out.keep hS.b); (obtain ⟨p0, p1, p2, p3, -⟩ := kr.o4); (have pl := kr.lt); clear kr hS; go_simp; first | done | exact rfl)); (case putal15 => (first | (simp only [Act.put, List.setIfInBounds_toArray, List.set_cons_zero, List.set_cons_succ]; first | done | exact rfl) | rfl)); (case' nextal15 => skip))
  (refine' GG.grow_lit (GG.BelL.still) rfl ?wtal16 ?runal16 ?putal16 ?nextal16; (case wtal16 => rfl); (case runal16 => (intro w' hS; (obtain ⟨dn, s, hS⟩ := hS); (have kr := KR.out.keep hS.b); (obtain ⟨p0, p1, p2, p3, -⟩ := kr.o4); (have pl := kr.lt); clear kr hS; go_simp; first | done | exact rfl)); (case putal16 => (first | (simp only [Act.put, List.setIfInBounds_toArray, List.set_cons_zero, List.set_cons_succ]; first | done | exact rfl) | rfl)); (case' nextal16 => skip))
  (refine' GG.grow_lit (GG.BelL.still) rfl ?wtal17 ?runal17 ?putal17 ?nextal17; (case wtal17 => rfl); (case runal17 => (intro w' hS; (obtain ⟨dn, s, hS⟩ := hS); (have kr := KR.out.keep hS.b); (obtain ⟨p0, p1, p2, p3, -⟩ := kr.o4); (have pl := kr.lt); clear kr hS; go_simp; first | done | exact rfl)); (case putal17 => (first | (simp only [Act.put, List.setIfInBounds_toArray, List.set_cons_zero, List.set_cons_succ]; first | done | exact rfl) | rfl)); (case' nextal17 => skip))
  (refine' GG.grow_lit (GG.BelL.still) rfl ?wtal18 ?runal18 ?putal18 ?nextal18; (case wtal18 => rfl); (case runal18 => (intro w' hS; (obtain ⟨dn, s, hS⟩ := hS); (have kr := KR.out.keep hS.b); (obtain ⟨p0, p1, p2, p3, -⟩ := kr.o4); (have pl := kr.lt); clear kr hS; go_simp; first | done | exact rfl)); (case putal18 => (first | (simp only [Act.put, List.setIfInBounds_toArray, List.set_cons_zero, List.set_cons_succ]; first | done | exact rfl) | rfl)); (case' nextal18 => skip))
  (refine' GG.grow_lit_call (u := .int .i64 CH) rfl Tryz.func9 (by kernel_rfl) rfl rfl ?wtal19 ?runal19 ?putal19 ?nextal19; (case wtal19 => rfl); (case runal19 => (intro dn s w' hS hd H; exact (ccross_is _ _ _ (markL N (hlfL o)) E (HMB.out.below hS.b) (HE.out.below hS.b) HLE.out).mono (fun e w2 h => ⟨(), by rw [h.1, HCH.out], ⟨hS.b.trans (h.2.mono hS.b.size)⟩, h.2, h.2.size⟩))); (case putal19 => (first | (simp only [Act.put, List.setIfInBounds_toArray, List.set_cons_zero, List.set_cons_succ]; first | done | exact rfl) | rfl)); (case' nextal19 => skip))
  (refine' GG.grow_lit (GG.BelL.still) rfl ?wtal20 ?runal20 ?putal20 ?nextal20; (case wtal20 => rfl); (case runal20 => (intro w' hS; (obtain ⟨dn, s, hS⟩ := hS); (have kr := KR.out.keep hS.b); (obtain ⟨p0, p1, p2, p3, -⟩ := kr.o4); (have pl := kr.lt); clear kr hS; go_simp; first | done | exact rfl)); (case putal20 => (first | (simp only [Act.put, List.setIfInBounds_toArray, List.set_cons_zero, List.set_cons_succ]; first | done | exact rfl) | rfl)); (case' nextal20 => skip))
  (refine' GG.grow_lit (GG.BelL.still) rfl ?wtal21 ?runal21 ?putal21 ?nextal21; (case wtal21 => rfl); (case runal21 => (intro w' hS; (obtain ⟨dn, s, hS⟩ := hS); (have kr := KR.out.keep hS.b); (obtain ⟨p0, p1, p2, p3, -⟩ := kr.o4); (have pl := kr.lt); clear kr hS; go_simp; first | done | exact rfl)); (case putal21 => (first | (simp only [Act.put, List.setIfInBounds_toArray, List.set_cons_zero, List.set_cons_succ]; first | done | exact rfl) | rfl)); (case' nextal21 => skip))
  (refine' GG.grow_any_op (p := (Trip #[.slice nq N nc, .int .i64 V, .int .i64 d, .int .i64 0, .slice gq N gc, .int .i64 V, .int .i64 d, .int .i64 1, .slice (some ⟨gm, 0, none⟩) N N, .int .i64 CH, .int .i64 d, .int .i64 2])) (hp := Trip.st) rfl ?wtal22 ?runal22 ?putal22 ?nextal22; (case wtal22 => rfl); (case runal22 => (intro dn s w' hS hd H; (have hb := below_alloc1 (w := w') (.cells #[.slice nq N nc, .int .i64 V, .int .i64 d, .int .i64 0, .slice gq N gc, .int .i64 V, .int .i64 d, .int .i64 1, .slice (some ⟨gm, 0, none⟩) N N, .int .i64 CH, .int .i64 d, .int .i64 2] 36)); refine ⟨.slice (some ⟨w'.heap.size, 0, none⟩) 3 3, (), w'.alloc (.cells #[.slice nq N nc, .int .i64 V, .int .i64 d, .int .i64 0, .slice gq N gc, .int .i64 V, .int .i64 d, .int .i64 1, .slice (some ⟨gm, 0, none⟩) N N, .int .i64 CH, .int .i64 d, .int .i64 2] 36), ?_, ⟨_, rfl, Blk.new _ _ _ _ rfl⟩, ⟨hS.b.trans (hb.mono hS.b.size)⟩, hb, hb.size⟩; (clear hS H; go_simp))); (case putal22 => (intro v; (simp only [Act.put, List.setIfInBounds_toArray, List.set_cons_zero, List.set_cons_succ]; first | done | exact rfl))); (case' nextal22 => intro v22))
  (refine' GG.grow_any_op (p := (Trip #[.slice nq N nc, .int .i64 V, .int .i64 d, .int .i64 0, .slice gq N gc, .int .i64 V, .int .i64 d, .int .i64 1, .slice (some ⟨gm, 0, none⟩) N N, .int .i64 CH, .int .i64 d, .int .i64 2])) (hp := Trip.st) rfl ?wtal23 ?runal23 ?putal23 ?nextal23; (case wtal23 => rfl); (case runal23 => (intro dn s w' hS hd H; (have h2 : Trip #[.slice nq N nc, .int .i64 V, .int .i64 d, .int .i64 0, .slice gq N gc, .int .i64 V, .int .i64 d, .int .i64 1, .slice (some ⟨gm, 0, none⟩) N N, .int .i64 CH, .int .i64 d, .int .i64 2] v22 () w' := H 22 (by decide)); refine ⟨v22, (), w', ?_, h2, ⟨hS.b⟩, Below.refl _ _, Nat.le_refl _⟩; (obtain ⟨g, e9, -⟩ := h2); (clear H hS; subst e9; go_simp))); (case putal23 => (intro v; (simp only [Act.put, List.setIfInBounds_toArray, List.set_cons_zero, List.set_cons_succ]; first | done | exact rfl))); (case' nextal23 => intro v23))
  (refine' GG.grow_lit (GG.BelL.still) rfl ?wtal24 ?runal24 ?putal24 ?nextal24; (case wtal24 => rfl); (case runal24 => (intro w' hS; (obtain ⟨dn, s, hS⟩ := hS); (have kr := KR.out.keep hS.b); (obtain ⟨p0, p1, p2, p3, -⟩ := kr.o4); (have pl := kr.lt); clear kr hS; go_simp; first | done | exact rfl)); (case putal24 => (first | (simp only [Act.put, List.setIfInBounds_toArray, List.set_cons_zero, List.set_cons_succ]; first | done | exact rfl) | rfl)); (case' nextal24 => skip))
  intro dn s w8 hS _ hk
  obtain ⟨g, rfl, hkg⟩ : Trip #[.slice nq N nc, .int .i64 V, .int .i64 d, .int .i64 0, .slice gq N gc, .int .i64 V, .int .i64 d, .int .i64 1, .slice (some ⟨gm, 0, none⟩) N N, .int .i64 CH, .int .i64 d, .int .i64 2] v23 () w8 := hk 23 (by decide)
  have hb := hS.b
  have HPO : Hid (AlongPost w l E d (.returned (.tuple #[.slice (some ⟨g, 0, none⟩) 3 3, .nilIface])) w8) := Lib.hid ⟨g, _, _, _, ⟨near, V, d, 0⟩, ⟨far, V, d, 1⟩, ⟨markL N (hlfL o), CH, d, 2⟩, rfl, hkg,
    ⟨o, V, near, far, HO.out, by rw [HN.out]; exact HQ.out, by rw [HN.out]; exact HNL.out.1, by rw [HN.out]; exact HNL.out.2, rfl, rfl, by rw [HN.out, HCH.out]⟩, ⟨HNB.out.below hb, HAN.out⟩, ⟨HGB.out.below hb, HAG.out⟩, ⟨HMB.out.below hb, HAM.out⟩, bOn6 HB.out hb⟩
  clear hk hS hkg hb DS0
  go_wp2_with fail
  exact bodyPost_ret (v := .tuple #[.slice (some ⟨g, 0, none⟩) 3 3, .nilIface]) (by simp [results, Tryz.results19, go_sem]) rfl HPO.out
end Go.Proofs.YthfljimgpcignaaGreatDoor

/-
  What may be cut, all its splits, and the best of them: the program's Check, All and Best.
-/
namespace Go.Proofs.YthfljimgpcignaaGreatDoor
open Go.RowKit Go.Sort

theorem ccounts_is (n m : Nat) (w : World) (h2 : 2 ≤ n) (hn : n ≤ 4096) (hm : m ≤ 16384) :
    Calls Tryz.prog 29 #[.int .i64 n, .int .i64 m] w fun e w' => e = .returned .nilIface ∧ w = w' := by
  have d0 : decide ((n : Int) < 2) = false := decide_eq_false (by omega)
  have d1 : decide ((4096 : Int) < (n : Int)) = false := decide_eq_false (by omega)
  have d2 : decide ((16384 : Int) < (m : Int)) = false := decide_eq_false (by omega)
  have hni : (n : Int) ≤ 4096 := by omega
  have hn2 : (2 : Int) ≤ (n : Int) := by omega
  have hmi : (m : Int) ≤ 16384 := by omega
  go_enter Tryz.func29, Tryz.ntmps29
  go_wp2_with fail
  go_ret
  exact ⟨rfl, rfl⟩
/-- One point is too few. -/
theorem ccounts_one (m : Nat) (w : World) : Calls Tryz.prog 29 #[.int .i64 1, .int .i64 m] w (ErrPost w ⟨#[99, 117, 116]⟩ 0 1) := by
  go_enter Tryz.func29, Tryz.ntmps29
  go_wp2_with fail
  refine (cfault_is _ _ _ _).mono ?_
  rintro e w' ⟨g, rfl, hf, hb⟩
  have HP : Hid (ErrPost w ⟨#[99, 117, 116]⟩ 0 1 (.returned (.iface 60 (pt g))) w') := Lib.hid ⟨g, rfl, hf, hb⟩
  clear hf hb
  go_wp2_with fail
  go_ret
  exact HP.out
set_option maxHeartbeats 4000000 in
set_option maxRecDepth 100000 in
theorem ccheck_one {w : World} {pv ev : Value} {l es : List (Int × Int)} (hp : Prs w pv l) (he : Prs w ev es) (h1 : l.length = 1) :
    Calls Tryz.prog 18 #[pv, ev] w (ErrPost w ⟨#[99, 117, 116]⟩ 0 1) := by
  obtain ⟨pq, pc, rfl⟩ := hp.shape
  obtain ⟨eq0, ec0, rfl⟩ := he.shape
  rw [h1]
  clear hp he h1
  generalize es.length = m
  go_enter Tryz.func18, Tryz.ntmps18
  go_wp2_with fail
  refine (ccounts_one m _).mono ?_
  rintro e w' ⟨g, rfl, hf, hb⟩
  have HP : Hid (ErrPost w ⟨#[99, 117, 116]⟩ 0 1 (.returned (.iface 60 (pt g))) w') := Lib.hid ⟨g, rfl, hf, hb⟩
  clear hf hb
  go_wp2_with fail
  go_ret
  exact HP.out
set_option maxHeartbeats 8000000 in
set_option maxRecDepth 100000 in
theorem ccheck_is {w : World} {pv ev : Value} {l es : List (Int × Int)} (hp : Prs w pv l) (he : Prs w ev es) (hok : OkC l es) :
    Calls Tryz.prog 18 #[pv, ev] w fun e w' => e = .returned .nilIface ∧ Below w.heap.size w w' := by
  obtain ⟨pq, pc, rfl⟩ := hp.shape
  obtain ⟨eq0, ec0, rfl⟩ := he.shape
  have HP := Lib.hid hp
  have HE := Lib.hid he
  have HOK := Lib.hid hok
  obtain ⟨N, hN⟩ : ∃ N, l.length = N := ⟨_, rfl⟩
  obtain ⟨M, hM⟩ : ∃ M, es.length = M := ⟨_, rfl⟩
  have HN := Lib.hid hN
  have HM := Lib.hid hM
  rw [hN] at HP ⊢
  rw [hM] at HE ⊢
  clear hp he hok hN hM
  go_enter Tryz.func18, Tryz.ntmps18
  go_wp2_with fail
  refine (ccounts_is N M _ (by rw [← HN.out]; exact HOK.out.two) (by rw [← HN.out]; exact HOK.out.most) (by rw [← HM.out]; exact HOK.out.edges)).mono ?_
  rintro e w1 ⟨rfl, rfl⟩
  have hNb : N ≤ 4096 := by rw [← HN.out]; exact HOK.out.most
  have hMb : M ≤ 16384 := by rw [← HM.out]; exact HOK.out.edges
  have HNB := Lib.hid hNb
  have HMB := Lib.hid hMb
  clear hNb hMb
  go_wp2_with fail
  go_loopw [6, 7, 20] (fun _ _ iv wr => ∃ k : Nat, k ≤ N ∧ iv = .int .i64 k ∧ Hid (Below w.heap.size w wr)) (fun _ _ iv _ => N - (intOf iv).toNat)
  case atStart => exact ⟨0, Nat.zero_le _, rfl, Lib.hid (Below.refl _ _)⟩
  case round =>
    obtain ⟨k, hk, rfl, HB⟩ := hrel
    obtain ⟨wl, rfl⟩ : ∃ x, x = wr := ⟨_, rfl⟩
    by_cases hlt : k < N
    · have hki : (k : Int) < (N : Int) := by omega
      have hNi : (N : Int) ≤ 4096 := by have := HNB.out; omega
      have hll : k < l.length := by rw [HN.out]; exact hlt
      obtain ⟨eb, eo, rfl, e0, e1⟩ := (HP.out.below HB.out).at hll
      obtain ⟨ha, hb⟩ := HOK.out.p _ (List.getElem_mem hll)
      obtain ⟨⟨a, b⟩, hx⟩ : ∃ x, l[k] = x := ⟨_, rfl⟩
      rw [hx] at e0 e1 ha hb
      simp only at e0 e1 ha hb
      have HA := Lib.hid ha
      have HBB := Lib.hid hb
      have hel := World.block_lt_of_cell? wl _ e0
      obtain ⟨W3, hW3⟩ := named (wl.alloc (.cells #[.int .i64 a, .int .i64 b] 44))
      have hb3 : Below wl.heap.size wl W3 := by rw [hW3]; exact below_alloc1 _
      obtain ⟨gg, hgg⟩ : ∃ gg, wl.heap.size = gg := ⟨_, rfl⟩
      have kg : Blk W3 gg #[.int .i64 a, .int .i64 b] 44 := by rw [hW3]; exact Blk.new _ _ _ _ hgg
      obtain ⟨d0, d1, -⟩ := kg.o2
      have hgl := kg.lt
      have HB3 := Lib.hid (bOn6 HB.out hb3)
      have e3 := hW3.symm
      clear hx hW3 hb3 kg HB ha hb hll
      go_wp2_with fail
      refine (within_is a true _ HA.out).mono ?_
      rintro e w' ⟨rfl, rfl⟩
      go_wp2_with fail
      refine (within_is b true _ HBB.out).mono ?_
      rintro e w' ⟨rfl, rfl⟩
      go_wp2_with fail
      go_roundw
      case rel => exact ⟨k + 1, hlt, by go_num, HB3⟩
      case measure => simp [intOf]; omega
    · obtain rfl : k = N := by omega
      clear hlt hk
      go_wp2_with fail
      go_loopw [8, 9, 41] (fun _ _ iv wr => ∃ j : Nat, j ≤ M ∧ iv = .int .i64 j ∧ Hid (Below w.heap.size w wr)) (fun _ _ iv _ => M - (intOf iv).toNat)
      case atStart => exact ⟨0, Nat.zero_le _, rfl, HB⟩
      case round =>
        obtain ⟨j, hj, rfl, HB2⟩ := hrel
        by_cases hlt : j < M
        · have hki : (j : Int) < (M : Int) := by omega
          have hMi : (M : Int) ≤ 16384 := by have := HMB.out; omega
          have hll : j < es.length := by rw [HM.out]; exact hlt
          obtain ⟨eb, eo, rfl, e0, e1⟩ := (HE.out.below HB2.out).at hll
          obtain ⟨ha, hb⟩ := HOK.out.e _ (List.getElem_mem hll)
          obtain ⟨⟨a, b⟩, hx⟩ : ∃ x, es[j] = x := ⟨_, rfl⟩
          rw [HN.out] at ha hb
          rw [hx] at e0 e1 ha hb
          simp only at e0 e1 ha hb
          have HA : Hid (decide (0 ≤ a ∧ a < (k : Int)) = true) := Lib.hid (decide_eq_true ha)
          have HBB : Hid (decide (0 ≤ b ∧ b < (k : Int)) = true) := Lib.hid (decide_eq_true hb)
          have hel := World.block_lt_of_cell? wr _ e0
          obtain ⟨W3, hW3⟩ := named (wr.alloc (.cells #[.int .i64 a, .int .i64 b] 44))
          have hb3 : Below wr.heap.size wr W3 := by rw [hW3]; exact below_alloc1 _
          obtain ⟨gg, hgg⟩ : ∃ gg, wr.heap.size = gg := ⟨_, rfl⟩
          have kg : Blk W3 gg #[.int .i64 a, .int .i64 b] 44 := by rw [hW3]; exact Blk.new _ _ _ _ hgg
          obtain ⟨d0, d1, -⟩ := kg.o2
          have hgl := kg.lt
          have HB3 := Lib.hid (bOn6 HB2.out hb3)
          have e3 := hW3.symm
          clear hx hW3 hb3 kg HB2 ha hb hll
          go_wp2_with fail
          refine (camong_is a k true _ HA.out).mono ?_
          rintro e w' ⟨rfl, rfl⟩
          go_wp2_with fail
          refine (camong_is b k true _ HBB.out).mono ?_
          rintro e w' ⟨rfl, rfl⟩
          go_wp2_with fail
          go_roundw
          case rel => exact ⟨j + 1, hlt, by go_num, HB3⟩
          case measure => simp [intOf]; omega
        · obtain rfl : j = M := by omega
          go_wp2_with fail
          go_ret
          exact ⟨rfl, HB2.out⟩
/-! ### rows of splits that grow -/
theorem flatS_len : ∀ L, (flatS L).length = L.length * 4
  | [] => rfl
  | x :: r => by rw [flatS, List.length_cons, List.length_cons, List.length_cons, List.length_cons, flatS_len r, List.length_cons]; omega
theorem flatS_app : ∀ L M, flatS (L ++ M) = flatS L ++ flatS M
  | [], _ => rfl
  | x :: r, M => by rw [List.cons_append, flatS, flatS, flatS_app r M]; rfl
theorem flatS_at : ∀ (L : List (Value × Spl)) (i : Nat) (x : Value × Spl), L[i]? = some x → (flatS L)[i * 4]? = some x.1 ∧ (flatS L)[i * 4 + 1]? = some (.int .i64 x.2.cross) ∧ (flatS L)[i * 4 + 2]? = some (.int .i64 x.2.dir) ∧ (flatS L)[i * 4 + 3]? = some (.int .i64 x.2.kind)
  | [], i, x, h => by simp at h
  | y :: r, 0, x, h => by simp at h; subst h; exact ⟨rfl, rfl, rfl, rfl⟩
  | y :: r, i + 1, x, h => by
    have := flatS_at r i x (by simpa using h)
    rw [flatS, show (i + 1) * 4 = i * 4 + 1 + 1 + 1 + 1 by omega]
    simpa using this
theorem flatS_one : ∀ (L : List (Value × Spl)), (∀ x, x ∈ L → x.1.oneCell' = true) → ∀ u ∈ flatS L, u.oneCell' = true
  | [], _, u, hu => by simp [flatS] at hu
  | x :: r, h, u, hu => by
    simp only [flatS, List.mem_cons] at hu
    rcases hu with rfl | rfl | rfl | rfl | hu
    · exact h x (by simp)
    · rfl
    · rfl
    · rfl
    · exact flatS_one r (fun y hy => h y (by simp [hy])) u hu
theorem infoSplit : (Tryz.prog.info? 36).map (fun i => (i.zero, i.size, i.bytes)) = some (some (.agg #[.slice none 0 0, .int .i64 0, .int .i64 0, .int .i64 0]), 4, 48) := by kernel_rfl
structure SplR (w0 : World) (L : List (Value × Spl)) (v : Value) (w : World) : Prop where
  own : w.ownsRow w0.heap.size 36 4 v L.length (flatS L)
  side : ∀ x, x ∈ L → Bools w x.1 x.2.side ∧ ∀ g, v.ownBlock = some g → Av (fun b => b ≠ g) x.1
  b : Below w0.heap.size w0 w
theorem SplR.nil (w0 : World) : SplR w0 [] (.slice none 0 0) w0 := ⟨World.ownsRow_nil _ _ _ _, fun x hx => by simp at hx, Below.refl _ _⟩
theorem SplR.below {w0 w w' : World} {L : List (Value × Spl)} {v : Value} (h : SplR w0 L v w) (hb : Below w.heap.size w w') : SplR w0 L v w' := ⟨own_below h.own hb, fun x hx => ⟨(h.side x hx).1.below hb, (h.side x hx).2⟩, bOn6 h.b hb⟩
theorem SplR.app {w0 w : World} {L M : List (Value × Spl)} {v : Value} (h : SplR w0 L v w) {g : Nat} (hg : Blk w g (flatS M).toArray 36) {m : Nat} (hM : M.length = m) (hm : m ≤ 100) (hl : L.length ≤ 100) (hs : ∀ x, x ∈ M → Bools w x.1 x.2.side ∧ ∀ g, v.ownBlock = some g → Av (fun b => b ≠ g) x.1) :
    ∃ q c w', (Builtin.append_ #[30, 30] 30 #[v, .slice (some ⟨g, 0, none⟩) m m]).run Tryz.prog w = .ok (.slice q (L.length + m) c) w' ∧ SplR w0 (L ++ M) (.slice q (L.length + m) c) w' := by
  obtain ⟨i0, hi, hz0, hz1, hz2⟩ := info_parts infoSplit
  have hz9 : w0.heap.size ≤ w.heap.size := h.b.size
  obtain ⟨v', w', hr, o1, o2, -, o4⟩ := run_append_own_at (P := Tryz.prog) w w0.heap.size 30 30 36 i0 (.agg #[.slice none 0 0, .int .i64 0, .int .i64 0, .int .i64 0]) 4 48 Tryz.underlying30 hi hz0 hz1 hz2 rfl (by decide) v L.length (flatS L) h.own ⟨g, 0, none⟩ m m (flatS M) (by rw [flatS_len, hM])
    (fun j u hj => by
      rw [add0', hg.cell j (by rw [List.getElem?_toArray]; exact hj)]) (flatS_one M fun x hx => by
        obtain ⟨q, c, e⟩ := (hs x hx).1.shape
        rw [e]
        rfl) (by unfold maxLen; omega) (by omega) hz9
  have hall : ∀ x, x ∈ L ++ M → Bools w x.1 x.2.side ∧ ∀ g, v.ownBlock = some g → Av (fun b => b ≠ g) x.1 := fun x hx => by
    rcases List.mem_append.1 hx with hx | hx
    · exact h.side x hx
    · exact hs x hx
  have hkeep : Keep (fun b => v.ownBlock ≠ some b) w w' := ⟨o2.os, o2.tape, o2.output, o2.size, fun k hk hp => o2.block k hk (fun e => hp e.symm)⟩
  obtain ⟨q, c, rfl⟩ := own_shape o1
  refine ⟨q, c, w', hr, ⟨by rw [List.length_append, hM, flatS_app]; exact o1, fun x hx => ?_, (Below.refl _ _).trans (h.b.trans (hkeep.below (fun b hb e => by have := own_ge h.own _ e; omega) hz9))⟩⟩
  obtain ⟨h1, h2⟩ := hall x hx
  refine ⟨h1.keep (P := fun b => v.ownBlock ≠ some b) (fun b o s n c e h0 => ?_) hkeep, fun g' hg' => ?_⟩
  · intro e2
    exact h2 _ e2 b o s n c e h0 rfl
  · rcases o4 with o4 | o4
    · exact h2 g' (by rw [← o4]; exact hg')
    · rw [o4] at hg'
      injection hg' with hg'
      exact h1.av.mono fun b hb => by omega
theorem SplR.spls {w0 w : World} {L : List (Value × Spl)} {v : Value} (h : SplR w0 L v w) (h0 : 0 < L.length) : Spls w v (L.map Prod.snd) := by
  have ho := h.own
  rcases h.own.2 with ⟨rfl, e⟩ | ⟨g, cap, cur, rfl, _, _, hnc, hcm, _, _⟩
  · omega
  · refine ⟨g, 0, cap, by rw [List.length_map], fun i s hs => ?_⟩
    rw [List.getElem?_map] at hs
    obtain ⟨x, hx, rfl⟩ := Option.map_eq_some_iff.1 hs
    have hlt : i < L.length := (List.getElem?_eq_some_iff.1 hx).1
    obtain ⟨a, b, c, d⟩ := flatS_at L i x hx
    rw [Nat.zero_add]
    exact ⟨x.1, (ho.cellAt _ (by omega)).trans a, (h.side x (List.mem_of_getElem? hx)).1, (ho.cellAt _ (by omega)).trans b, (ho.cellAt _ (by omega)).trans c, (ho.cellAt _ (by omega)).trans d⟩
/-- The first k ways. -/
structure WaysR (l : List (Int × Int)) (E : Edg) (k : Nat) (L : List (Value × Spl)) : Prop where
  len : L.length = 3 * k
  way : ∀ d, d < k → ∃ x y z, L[3 * d]? = some x ∧ L[3 * d + 1]? = some y ∧ L[3 * d + 2]? = some z ∧ WayQ l E d x.2 y.2 z.2
theorem WaysR.more {l : List (Int × Int)} {E : Edg} {k : Nat} {L : List (Value × Spl)} (h : WaysR l E k L) {x y z : Value × Spl} (hw : WayQ l E k x.2 y.2 z.2) : WaysR l E (k + 1) (L ++ [x, y, z]) := by
  refine ⟨by rw [List.length_append, h.len]; simp; omega, fun d hd => ?_⟩
  have hl := h.len
  by_cases e : d < k
  · obtain ⟨a, b, c, h1, h2, h3, h4⟩ := h.way d e
    exact ⟨a, b, c, by rw [List.getElem?_append_left (by omega)]; exact h1, by rw [List.getElem?_append_left (by omega)]; exact h2, by rw [List.getElem?_append_left (by omega)]; exact h3, h4⟩
  · obtain rfl : d = k := by omega
    refine ⟨x, y, z, ?_, ?_, ?_, hw⟩
    · rw [List.getElem?_append_right (by omega), hl, show 3 * d - 3 * d = 0 by omega]; rfl
    · rw [List.getElem?_append_right (by omega), hl, show 3 * d + 1 - 3 * d = 1 by omega]; rfl
    · rw [List.getElem?_append_right (by omega), hl, show 3 * d + 2 - 3 * d = 2 by omega]; rfl
theorem WaysR.all {l : List (Int × Int)} {E : Edg} {L : List (Value × Spl)} (h : WaysR l E 4 L) : SplitsQ l E (L.map Prod.snd) := by
  refine ⟨by rw [List.length_map, h.len], fun d hd => ?_⟩
  obtain ⟨x, y, z, h1, h2, h3, h4⟩ := h.way d hd
  exact ⟨x.2, y.2, z.2, by rw [List.getElem?_map, h1]; rfl, by rw [List.getElem?_map, h2]; rfl, by rw [List.getElem?_map, h3]; rfl, h4⟩
/-- The loop's head. -/
def AllRel (w : World) (l : List (Int × Int)) (E : Edg) (av iv : Value) (wr : World) : Prop := ∃ (k : Nat) (L : List (Value × Spl)) (q : Option Addr) (c : Nat), k ≤ 4 ∧ iv = .int .i64 k ∧ av = .slice q L.length c ∧ WaysR l E k L ∧ SplR w L (.slice q L.length c) wr
set_option maxHeartbeats 8000000 in
set_option maxRecDepth 100000 in
theorem call_is : AllC := by
  intro w pv ev l E hp he hok
  have HP := Lib.hid hp
  have HE := Lib.hid he
  have HOK := Lib.hid hok
  clear hp he hok
  go_enter Tryz.func7, Tryz.ntmps7
  go_wp2_with fail
  refine (ccheck_is HP.out HE.out HOK.out).mono ?_
  rintro e w1 ⟨rfl, hb1⟩
  have HB1 := Lib.hid hb1
  clear hb1
  go_wp2_with fail
  go_loopw [7, 8, 9, 10, 17] (fun av _ _ _ iv wr => AllRel w l E av iv wr) (fun _ _ _ _ iv _ => 4 - (intOf iv).toNat)
  case atStart => exact ⟨0, [], none, 0, by omega, rfl, rfl, ⟨rfl, fun d hd => by omega⟩, (⟨World.ownsRow_nil _ _ _ _, fun x hx => by simp at hx, HB1.out⟩ : SplR w [] _ _)⟩
  case round =>
    obtain ⟨k, L, aq, ac, hk, rfl, rfl, hw, hs⟩ := hrel
    have HW := Lib.hid hw
    have HS := Lib.hid hs
    have hln := hw.len
    have HLN := Lib.hid hln
    clear hw hs
    by_cases hlt : k < 4
    · have hki : (k : Int) < 4 := by omega
      clear hln
      go_wp2_with fail
      refine (calong_is (d := k) (HP.out.below HS.out.b) (HE.out.below HS.out.b) HOK.out).mono ?_
      rintro e w2 ⟨g, nv, gv, hv, a, b, c, rfl, hkb, hway, ⟨hn1, hn2⟩, ⟨hg1, hg2⟩, ⟨hh1, hh2⟩, hb2⟩
      have hfar : ∀ x, x ∈ [(nv, a), (gv, b), (hv, c)] → Bools w2 x.1 x.2.side ∧ ∀ g, (Value.slice aq L.length ac).ownBlock = some g → Av (fun b => b ≠ g) x.1 := by
        intro x hx
        simp only [List.mem_cons, List.not_mem_nil, or_false] at hx
        have hlow : ∀ g, (Value.slice aq L.length ac).ownBlock = some g → ∀ b, wr.heap.size ≤ b → b ≠ g := fun g hg b hb => by
          have := (HS.out.own.lt _ hg).2
          omega
        rcases hx with rfl | rfl | rfl
        · exact ⟨hn1, fun g hg => hn2.mono (hlow g hg)⟩
        · exact ⟨hg1, fun g hg => hg2.mono (hlow g hg)⟩
        · exact ⟨hh1, fun g hg => hh2.mono (hlow g hg)⟩
      obtain ⟨q', c', w3, hr, hs3⟩ := (HS.out.below hb2).app hkb (m := 3) rfl (by omega) (by have := HLN.out; omega) hfar
      have HR := Lib.hid hr
      have HS3 := Lib.hid hs3
      have HW3 := Lib.hid (HW.out.more (x := (nv, a)) (y := (gv, b)) (z := (hv, c)) hway)
      clear hkb hway hn1 hn2 hg1 hg2 hh1 hh2 hb2 hfar hr hs3
      go_wp2_with (at_builtin; refine wpList_append_run (by rfl) _ _ _ rfl _ _ _ rfl rfl HR.out ?_)
      go_roundw
      case rel => exact ⟨k + 1, _, q', c', hlt, by go_num, by simp, HW3.out, by have := HS3.out; simpa using this⟩
      case measure => simp [intOf]; omega
    · obtain rfl : k = 4 := by omega
      have HPO : Hid (AllPost w l E (.returned (.tuple #[.slice aq L.length ac, .nilIface])) wr) := Lib.hid ⟨_, _, rfl, HS.out.spls (by omega), HW.out.all, HS.out.b⟩
      clear hln
      go_wp2_with fail
      exact bodyPost_ret (v := .tuple #[.slice aq L.length ac, .nilIface]) (by simp [results, Tryz.results7, go_sem]) rfl HPO.out
/-- Marks lie in no block that holds none. -/
theorem Bools.off {w : World} {v : Value} {l : List Bool} (h : Bools w v l) {g : Nat} {q : Value} {a b c : Int} {t : TypeId} {p : Option Addr} {n m : Nat} (hq : q = .slice p n m) (hk : Blk w g #[q, .int .i64 a, .int .i64 b, .int .i64 c] t) : Av (fun b => b ≠ g) v := by
  subst hq
  rcases h with ⟨rfl, p, c, rfl, -⟩ | ⟨hl, b', o, c', h1, h2, rfl, hc⟩
  · exact Av.nil _ _ _
  · intro b2 o2 s2 n2 c2 e h0
    injection e with e1 e2 e3
    injection e1 with e1
    injection e1 with e1 e4
    subst e1
    rintro rfl
    have := hc 0 (by omega)
    rw [Nat.add_zero] at this
    have hlt := World.block_lt_of_cell? w _ this
    have h4 : o < 4 := by
      refine Nat.lt_of_not_le fun h4 => ?_
      unfold Blk at hk
      simp [World.cell?, hk] at this
      rw [List.getElem?_eq_none (by simpa using h4)] at this
      cases this
    match o, h4 with
    | 0, _ => rw [hk.cell 0 rfl] at this; simp at this
    | 1, _ => rw [hk.cell 1 rfl] at this; simp at this
    | 2, _ => rw [hk.cell 2 rfl] at this; simp at this
    | 3, _ => rw [hk.cell 3 rfl] at this; simp at this
set_option maxHeartbeats 8000000 in
set_option maxRecDepth 100000 in
theorem cbest_is : BestC := by
  intro w pv ev l E hp he hok
  obtain ⟨x1, hx1⟩ := named (w.alloc (.cells #[.slice none 0 0, .int .i64 0, .int .i64 0, .int .i64 0] 36))
  have hb1 : Below w.heap.size w x1 := by rw [hx1]; exact below_alloc1 _
  obtain ⟨g1, hg1⟩ : ∃ g, w.heap.size = g := ⟨_, rfl⟩
  have kb : Blk x1 g1 #[.slice none 0 0, .int .i64 0, .int .i64 0, .int .i64 0] 36 := by rw [hx1]; exact Blk.new _ _ _ _ hg1
  have HP := Lib.hid (hp.below hb1)
  have HE := Lib.hid (he.below hb1)
  have HOK := Lib.hid hok
  have HB1 := Lib.hid hb1
  have HK := Lib.hid kb
  have e1 := hx1.symm
  clear hp he hok hb1 kb hx1
  go_enter Tryz.func13, Tryz.ntmps13
  go_wp2_with fail
  clear e1
  have HG1 := Lib.hid hg1
  refine (call_is _ _ _ _ _ HP.out HE.out HOK.out).mono ?_
  rintro e w2 ⟨v, L, rfl, hS, hQ, hb2⟩
  obtain ⟨ab, ao, ac, rfl, -⟩ := id hS
  have HS := Lib.hid hS
  have HQ := Lib.hid hQ
  have HB2 := Lib.hid (bOn6 HB1.out hb2)
  have HK2 := Lib.hid (HK.out.keep hb2)
  clear hS hQ hb2
  go_wp2_with fail
  refine (minfunc_is HS.out (by rw [HQ.out.len]; omega) (by rw [HQ.out.len]; omega) (fun i x hx => by rw [(HQ.out.one hx).len]; have := HOK.out.most; omega)).mono ?_
  rintro e w3 ⟨sv, s, n, rfl, hsv, hA, hb3⟩
  obtain ⟨S1, C1, D1, K1⟩ := s
  simp only at hsv
  obtain ⟨sq, sc, rfl⟩ := hsv.shape
  have hk3 := HK2.out.keep hb3
  obtain ⟨m0, m1, m2, m3, f0, f1, f2, f3⟩ := hk3.o4
  have ml := hk3.lt
  have hm := hk3.set4 (.slice sq S1.length sc) (.int .i64 C1) (.int .i64 D1) (.int .i64 K1)
  have hkp := Keep.set4 (P := fun b => b ≠ g1) w3 (b := g1) (by simp) (.slice sq S1.length sc) (.int .i64 C1) (.int .i64 D1) (.int .i64 K1)
  obtain ⟨w9, hw9⟩ := named ((((w3.setCell ⟨g1, 0, none⟩ (.slice sq S1.length sc)).setCell ⟨g1, 1, none⟩ (.int .i64 C1)).setCell ⟨g1, 2, none⟩ (.int .i64 D1)).setCell ⟨g1, 3, none⟩ (.int .i64 K1))
  rw [← hw9] at hm hkp
  have hb9 := bOn6 HB2.out hb3
  have HPO : Hid (BestPost w l E (.returned (.tuple #[.agg #[.slice sq S1.length sc, .int .i64 C1, .int .i64 D1, .int .i64 K1], .nilIface])) w9) := Lib.hid ⟨_, ⟨S1, C1, D1, K1⟩, n, L, rfl, hsv.keep (hsv.off rfl hk3) hkp, HQ.out, hA, hb9.trans (hkp.below (fun b hb => by have := HG1.out; omega) hb9.size)⟩
  obtain ⟨r0, r1, r2, r3, -⟩ := hm.o4
  clear hk3 hm hkp hsv hA hb3 hb9
  go_wp2_with fail
  rw [← hw9]
  exact bodyPost_ret (v := .tuple #[.agg #[.slice sq S1.length sc, .int .i64 C1, .int .i64 D1, .int .i64 K1], .nilIface]) (by simp [results, Tryz.results13, go_sem, r0, r1, r2, r3]) rfl HPO.out
/-! ### one point alone -/
theorem call_one {w : World} {pv ev : Value} {l es : List (Int × Int)} (hp : Prs w pv l) (he : Prs w ev es) (h1 : l.length = 1) :
    Calls Tryz.prog 7 #[pv, ev] w fun e w' => ∃ g, e = .returned (.tuple #[.slice none 0 0, .iface 60 (pt g)]) ∧ FaultAt w' g ⟨#[99, 117, 116]⟩ 0 1 ∧ Below w.heap.size w w' := by
  have HP := Lib.hid hp
  have HE := Lib.hid he
  have H1 := Lib.hid h1
  clear hp he h1
  go_enter Tryz.func7, Tryz.ntmps7
  go_wp2_with fail
  refine (ccheck_one HP.out HE.out H1.out).mono ?_
  rintro e w1 ⟨g, rfl, hf, hb⟩
  have HF := Lib.hid (And.intro hf hb)
  clear hf hb
  go_wp2_with fail
  exact bodyPost_ret (v := .tuple #[.slice none 0 0, .iface 60 (pt g)]) (by simp [results, Tryz.results7, go_sem]) rfl ⟨g, rfl, HF.out.1, HF.out.2⟩
set_option maxHeartbeats 4000000 in
set_option maxRecDepth 100000 in
theorem cbest_one {w : World} {pv ev : Value} {l es : List (Int × Int)} (hp : Prs w pv l) (he : Prs w ev es) (h1 : l.length = 1) :
    Calls Tryz.prog 13 #[pv, ev] w fun e w' => ∃ g, e = .returned (.tuple #[.agg #[.slice none 0 0, .int .i64 0, .int .i64 0, .int .i64 0], .iface 60 (pt g)]) ∧ FaultAt w' g ⟨#[99, 117, 116]⟩ 0 1 ∧ Below w.heap.size w w' := by
  obtain ⟨x1, hx1⟩ := named (w.alloc (.cells #[.slice none 0 0, .int .i64 0, .int .i64 0, .int .i64 0] 36))
  have hb1 : Below w.heap.size w x1 := by rw [hx1]; exact below_alloc1 _
  obtain ⟨g1, hg1⟩ : ∃ g, w.heap.size = g := ⟨_, rfl⟩
  have kb : Blk x1 g1 #[.slice none 0 0, .int .i64 0, .int .i64 0, .int .i64 0] 36 := by rw [hx1]; exact Blk.new _ _ _ _ hg1
  have HP := Lib.hid (hp.below hb1)
  have HE := Lib.hid (he.below hb1)
  have H1 := Lib.hid h1
  have HB1 := Lib.hid hb1
  have HK := Lib.hid kb
  have e1 := hx1.symm
  clear hp he h1 hb1 kb hx1
  go_enter Tryz.func13, Tryz.ntmps13
  go_wp2_with fail
  clear e1
  have HG1 := Lib.hid hg1
  refine (call_one HP.out HE.out H1.out).mono ?_
  rintro e w2 ⟨g, rfl, hf, hb2⟩
  have hk3 := HK.out.keep hb2
  obtain ⟨m0, m1, m2, m3, f0, f1, f2, f3⟩ := hk3.o4
  have ml := hk3.lt
  have hm := hk3.set4 (.slice none 0 0) (.int .i64 0) (.int .i64 0) (.int .i64 0)
  have hkp := Keep.set4 (P := fun b => b ≠ g1) w2 (b := g1) (by simp) (.slice none 0 0) (.int .i64 0) (.int .i64 0) (.int .i64 0)
  obtain ⟨w9, hw9⟩ := named ((((w2.setCell ⟨g1, 0, none⟩ (.slice none 0 0)).setCell ⟨g1, 1, none⟩ (.int .i64 0)).setCell ⟨g1, 2, none⟩ (.int .i64 0)).setCell ⟨g1, 3, none⟩ (.int .i64 0))
  rw [← hw9] at hm hkp
  have hb9 := bOn6 HB1.out hb2
  have hne : g ≠ g1 := blk_ne hf hk3 (by decide)
  have HPO := Lib.hid (And.intro (hkp.blk hf hne) (hb9.trans (hkp.below (fun b hb => by have := HG1.out; omega) hb9.size)))
  obtain ⟨r0, r1, r2, r3, -⟩ := hm.o4
  clear hk3 hm hkp hf hb2 hb9 hne
  go_wp2_with fail
  rw [← hw9]
  exact bodyPost_ret (v := .tuple #[.agg #[.slice none 0 0, .int .i64 0, .int .i64 0, .int .i64 0], .iface 60 (pt g)]) (by simp [results, Tryz.results13, go_sem, r0, r1, r2, r3]) rfl ⟨g, rfl, HPO.out.1, HPO.out.2⟩
end Go.Proofs.YthfljimgpcignaaGreatDoor
