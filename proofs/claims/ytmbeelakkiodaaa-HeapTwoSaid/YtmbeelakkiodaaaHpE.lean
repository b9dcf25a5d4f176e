/-
  The program's heap: Cost, Clear, Pop.
-/
import Derived.Test.YtmbeelakkiodaaaHpD
namespace Go.Proofs.Ytmbeelakkiodaaa
open Go.RowKit

theorem HpS.setP' {S : Nat → Prop} {w : World} {p : Nat} {R : List It} {P : List Int} {rv : Value} {q : Option Addr} {c n : Nat} (h : HpS S w p R P rv (.slice q n c)) (hn : P.length = n) {k : Nat} (hk : k < P.length) (x : Int) : ∃ g, q = some ⟨g, 0, none⟩ ∧ g < w.heap.size ∧ (∃ v, w.cell? ⟨g, k, none⟩ = some v) ∧ w.frozen? ⟨g, k, none⟩ = false ∧
    HpS S (w.setCell ⟨g, k, none⟩ (.int .i64 x)) p R (P.set k x) rv (.slice q n c) ∧ Keep (fun b => ¬ S b) w (w.setCell ⟨g, k, none⟩ (.int .i64 x)) := by
  subst hn
  exact h.setP hk x
/-- A heap at p of other keys, its slices whatever. -/
def SiftPostC (S : Nat → Prop) (w : World) (p N : Nat) (m : Nat → Option Int) (e : Ending) (w' : World) : Prop :=
  e = .returned (.tuple #[]) ∧ ∃ R P rv pv, HpS S w' p R P rv pv ∧ Hpp N R P m ∧ Keep (fun b => ¬ S b) w w'
section
variable {S : Nat → Prop} {w : World} {p : Nat} {R : List It} {P : List Int} {rv pv : Value} {N : Nat} {m : Nat → Option Int}

set_option maxHeartbeats 2000000 in
theorem hcost_no (h : HpS S w p R P rv pv) (k : Int) (hk : ¬ (0 ≤ k ∧ k < P.length)) : Calls Try.prog 18 #[hp p, .int .i64 k] w fun e w' => e = .returned (.tuple #[.int .i64 0, .bool false]) ∧ w = w' := by
  have H := Lib.hid h
  have HK := Lib.hid (decide_eq_false hk)
  clear h hk
  go_enter Try.func18, Try.ntmps18
  go_wp2_with fail
  refine (hhas_any H.out k HK.out).mono ?_
  rintro e w' ⟨rfl, rfl⟩
  go_wp2_with fail
  go_ret2
  exact ⟨rfl, rfl⟩

set_option maxHeartbeats 2000000 in
theorem hcost_off (h : HpS S w p R P rv pv) (k : Nat) (hP : P[k]? = some (-1)) : Calls Try.prog 18 #[hp p, .int .i64 k] w fun e w' => e = .returned (.tuple #[.int .i64 0, .bool false]) ∧ w = w' := by
  obtain ⟨⟨q, cp, rfl, hcp⟩, q', c', rfl⟩ := h.shape
  obtain ⟨cc0, cc1, -, -⟩ := h.k.o2
  have hlt := lt_of_get hP
  have hki : (k : Int) < (P.length : Int) := by omega
  obtain ⟨g', rfl, pc, -⟩ := h.pl hP
  have H := Lib.hid h
  have HHAS : Hid (decide ((0 : Int) ≤ k ∧ (k : Int) < P.length) = true) := Lib.hid (by simp; omega)
  clear h hP
  go_enter Try.func18, Try.ntmps18
  go_wp2_with fail
  refine (hhas_any H.out k HHAS.out).mono ?_
  rintro e w' ⟨rfl, rfl⟩
  go_wp2_with fail
  go_ret2
  exact ⟨rfl, rfl⟩

set_option maxHeartbeats 2000000 in
theorem hcost_in (h : HpS S w p R P rv pv) (k i : Nat) (d : Int) (hP : P[k]? = some (i : Int)) (hRi : R[i]? = some (k, d)) : Calls Try.prog 18 #[hp p, .int .i64 k] w fun e w' => e = .returned (.tuple #[.int .i64 d, .bool true]) ∧ ∃ n, w' = w.drewN n := by
  obtain ⟨⟨q, cp, rfl, hcp⟩, q', c', rfl⟩ := h.shape
  obtain ⟨cc0, cc1, -, -⟩ := h.k.o2
  have hlt := lt_of_get hP
  have hki : (k : Int) < (P.length : Int) := by omega
  have hil := lt_of_get hRi
  have hii : (i : Int) < (R.length : Int) := by omega
  have hin : ((i : Int) == -1) = false := by simp
  obtain ⟨g', rfl, pc, -⟩ := h.pl hP
  obtain ⟨gr, rfl, x0, x1, -⟩ := h.at hRi
  simp only [] at x0 x1
  have H := Lib.hid h
  have HHAS : Hid (decide ((0 : Int) ≤ k ∧ (k : Int) < P.length) = true) := Lib.hid (by simp; omega)
  clear h hP hRi hcp
  go_enter Try.func18, Try.ntmps18
  go_wp2_with fail
  refine (hhas_any H.out k HHAS.out).mono ?_
  rintro e w' ⟨rfl, rfl⟩
  go_wp2_with fail
  go_quiet (fail)
  go_wp2_with fail
  go_ret2
  exact ⟨rfl, _, rfl⟩

/-- A heap of which the first k places have been laid down. -/
def ClearRel (S : Nat → Prop) (w : World) (p : Nat) (R : List It) (P : List Int) (rv pv : Value) (v : Value) (wr : World) : Prop :=
  ∃ k : Nat, k ≤ R.length ∧ v = .int .i64 k ∧ HpS S wr p R (clr (R.take k) P) rv pv ∧ Keep (fun b => ¬ S b) w wr

set_option maxHeartbeats 4000000 in
set_option maxRecDepth 100000 in
theorem hclear0 (hS : ∀ b, S b → b < w.heap.size) (h : HpS S w p R P rv pv) (hh : Hpp N R P m) (hN : N ≤ 16384) : Calls Try.prog 14 #[hp p] w (SiftPostC S w p N (fun _ => none)) := by
  have HSS := Lib.hid hS
  have HH := Lib.hid h
  have HPP := Lib.hid hh
  have hrl := Nat.le_trans hh.con.len hN
  obtain ⟨⟨q, cp, rfl, hcp⟩, q', c', rfl⟩ := h.shape
  obtain ⟨cc0, cc1, -, -⟩ := h.k.o2
  clear h hh hS
  go_enter Try.func14, Try.ntmps14
  go_wp2_with fail
  go_loopw [9] (fun v wr => ClearRel S w p R P (.slice q R.length cp) (.slice q' P.length c') v wr) (fun v _ => R.length - (intOf v).toNat)
  case atStart => exact ⟨0, Nat.zero_le _, rfl, HH.out, Keep.refl _ _⟩
  case round =>
    obtain ⟨k, hk, rfl, h1, hkp⟩ := hrel
    obtain ⟨wo, rfl⟩ : ∃ wo : World, wo = wr := ⟨_, rfl⟩
    clear cc0 cc1
    by_cases hlt : k < R.length
    · obtain ⟨x, hx⟩ : ∃ x, R[k]? = some x := ⟨_, List.getElem?_eq_getElem hlt⟩
      obtain ⟨g, rfl, x0, x1, hg⟩ := h1.at hx
      have hxN := (HPP.out.con.row k x hx).1
      have hki : (k : Int) < (R.length : Int) := by omega
      have hsn : clr (R.take (k + 1)) P = (clr (R.take k) P).set x.1 (-1) := by
        rw [List.take_succ_eq_append_getElem hlt, clr_snoc]
        rw [List.getElem?_eq_getElem hlt] at hx
        injection hx with hx
        rw [hx]
      have HSN := Lib.hid hsn
      have H1 := Lib.hid h1
      have HKP := Lib.hid hkp
      have HPL : Hid (x.1 < (clr (R.take k) P).length) := Lib.hid (by rw [clr_length, HPP.out.con.pl]; exact hxN)
      have hw1 : Below wo.heap.size wo (wo.alloc (.cells #[.int .i64 x.1, .int .i64 x.2] 56)) := below_new _
      obtain ⟨w1, ew1⟩ := named (wo.alloc (.cells #[.int .i64 x.1, .int .i64 x.2] 56))
      have hbx : Blk w1 wo.heap.size #[.int .i64 x.1, .int .i64 x.2] 56 := by rw [ew1]; exact Blk.new _ _ _ _ rfl
      rw [← ew1] at hw1
      have h2 := h1.old hw1
      obtain ⟨gp, rfl, hgp, ⟨v0, a0⟩, f0, hs, hk2⟩ := h2.setP' (by rw [clr_length]) HPL.out (-1)
      have hgb : gp ≠ wo.heap.size := fun e => by
        have := (h1.l.lt gp rfl).2
        omega
      obtain ⟨cc0, cc1, -, -⟩ := h2.k.o2
      obtain ⟨b0, b1, -, -⟩ := hbx.o2
      have hxP : (x.1 : Int) < (P.length : Int) := by rw [HPP.out.con.pl]; omega
      have HCL : Hid (ClearRel S w p R P (.slice (some ⟨g, 0, none⟩) R.length cp) (.slice (some ⟨gp, 0, none⟩) P.length c') (.int .i64 ((k + 1 : Nat) : Int)) (w1.setCell ⟨gp, x.1, none⟩ (.int .i64 (-1))).drew) :=
        Lib.hid ⟨k + 1, hlt, rfl, by rw [HSN.out]; exact hs.drew, (hkp.trans ((Keep.of hw1).trans hk2)).drew⟩
      have HW := Lib.hid ew1
      clear h1 hkp hsn hx h2 hs hk2 hw1 hbx ew1
      go_wp2_with fail
      rw [show wo.alloc (.cells #[.int .i64 x.1, .int .i64 x.2] 56) = w1 from HW.out.symm]
      go_region
      go_wp2_with fail
      go_roundw
      case rel => exact HCL.out
      case measure => simp [intOf]; omega
    · have hkl : k = R.length := by omega
      have hcl : clr (R.take k) P = List.replicate N (-1) := by rw [hkl, List.take_length]; exact HPP.out.clear
      have hnlt : ¬ (k : Int) < (R.length : Int) := by omega
      rw [hcl] at h1
      obtain ⟨cc0, cc1, f0, -⟩ := h1.k.o2
      rcases owns_blk h1.r with ⟨e, e0⟩ | ⟨g, c2, cur, e, hb, -⟩
      · injection e with e1 e2 e3
        subst e1
        subst e3
        obtain ⟨hs, hk2⟩ := h1.setRow (R' := []) (rv' := .slice none 0 0) (World.ownsRow_nil _ _ _ _) (fun g hg => by cases hg)
        have HPO : Hid (SiftPostC S w p N (fun _ => none) (.returned (.tuple #[])) (wo.setCell ⟨p, 0, none⟩ (.slice none 0 0))) := Lib.hid ⟨rfl, _, _, _, _, hs, Hpp.empty N, hkp.trans hk2⟩
        rw [e0] at cc0
        clear h1 hkp hs hk2 hcl hkl e2 e0
        go_wp2_with fail
        exact bodyPost_end (v := .tuple #[]) (by simp [results, Try.results14, go_sem]) rfl HPO.out
      · injection e with e1 e2 e3
        subst e1
        obtain ⟨hs, hk2⟩ := h1.setRow (R' := []) (rv' := .slice (some ⟨g, 0, none⟩) 0 cp) (by have := own_cut h1.r (Nat.zero_le R.length); simpa using this) (fun g' hg => h1.rS g' hg)
        have HPO : Hid (SiftPostC S w p N (fun _ => none) (.returned (.tuple #[])) (wo.setCell ⟨p, 0, none⟩ (.slice (some ⟨g, 0, none⟩) 0 cp))) := Lib.hid ⟨rfl, _, _, _, _, hs, Hpp.empty N, hkp.trans hk2⟩
        clear h1 hkp hs hk2 hcl hkl e2 e3 hb
        go_wp2_with fail
        exact bodyPost_end (v := .tuple #[]) (by simp [results, Try.results14, go_sem]) rfl HPO.out

set_option maxHeartbeats 2000000 in
theorem hpop_no (h : HpS S w p [] P rv pv) : Calls Try.prog 12 #[hp p] w fun e w' => e = .returned (.tuple #[.int .i64 0, .int .i64 0, .bool false]) ∧ w = w' := by
  obtain ⟨⟨q, cp, rfl, hcp⟩, q', c', rfl⟩ := h.shape
  obtain ⟨cc0, cc1, -, -⟩ := h.k.o2
  clear h hcp
  go_enter Try.func12, Try.ntmps12
  go_wp2_with fail
  go_ret3
  exact ⟨rfl, rfl⟩

/-- What Pop answers where one is in. -/
def PopPost (S : Nat → Prop) (w : World) (p N : Nat) (m : Nat → Option Int) (x : It) (e : Ending) (w' : World) : Prop :=
  e = .returned (.tuple #[.int .i64 x.1, .int .i64 x.2, .bool true]) ∧ ∃ R P rv pv, HpS S w' p R P rv pv ∧ Hpp N R P m ∧ Keep (fun b => ¬ S b) w w'

set_option maxHeartbeats 4000000 in
set_option maxRecDepth 100000 in
theorem hpop0 (hS : ∀ b, S b → b < w.heap.size) (h : HpS S w p R P rv pv) (hh : Hpp N R P m) (hN : N ≤ 16384) (x : It) (hx : R[0]? = some x) : Calls Try.prog 12 #[hp p] w (PopPost S w p N (upd m x.1 none) x) := by
  obtain ⟨⟨q, cp, rfl, hcp⟩, q', c', rfl⟩ := h.shape
  obtain ⟨n, hn⟩ : ∃ n, R.length = n + 1 := ⟨R.length - 1, by have := lt_of_get hx; omega⟩
  have hrl := Nat.le_trans hh.con.len hN
  obtain ⟨g, rfl, x0, x1, hg⟩ := h.at hx
  obtain ⟨l, hl⟩ : ∃ l, R[n]? = some l := ⟨_, List.getElem?_eq_getElem (by omega)⟩
  obtain ⟨g2, e2, y0, y1, -⟩ := h.at hl
  cases e2
  obtain ⟨cc0, cc1, f0, f1⟩ := h.k.o2
  have HSS := Lib.hid hS
  have HH := Lib.hid h
  have HPP := Lib.hid hh
  have HX := Lib.hid hx
  have HL := Lib.hid hl
  have HN := Lib.hid hn
  have hne : ((R.length : Int) == 0) = false := beq_eq_false_iff_ne.2 (by omega)
  have hpos : 0 < R.length := by omega
  have hpz : p < w.heap.size := h.k.lt
  have hsub : ((R.length : Int) - 1) = (n : Int) := by omega
  have hni : (n : Int) < (R.length : Int) := by omega
  clear hS h hh hx hl hn
  obtain ⟨hs1, hk1⟩ := HH.out.setRow (R' := R.take n) (rv' := .slice (some ⟨g, 0, none⟩) n cp) (by have := own_cut HH.out.r (show n ≤ R.length from by omega); rw [List.length_take, show min n R.length = n from by omega]; exact this) (fun g' hg => HH.out.rS g' hg)
  obtain ⟨ws, hws⟩ := named (w.setCell ⟨p, 0, none⟩ (.slice (some ⟨g, 0, none⟩) n cp))
  have hwz : ws.heap.size = w.heap.size := by rw [hws]; simp [World.setCell]
  rw [← hws] at hs1 hk1
  obtain ⟨W2, hW2⟩ := named ((ws.alloc (.cells #[.int .i64 x.1, .int .i64 x.2] 56)).alloc (.cells #[.int .i64 l.1, .int .i64 l.2] 56)).drew
  have hb2 : Below ws.heap.size ws W2 := by rw [hW2]; exact (((Below.refl _ _).alloc (Nat.le_refl _) _).alloc (by simp) _).drew
  have hx2 : Blk W2 w.heap.size #[.int .i64 x.1, .int .i64 x.2] 56 := by rw [hW2]; exact ((Blk.new _ _ _ _ hwz).old _).drew
  have hl2 : Blk W2 (w.heap.size + 1) #[.int .i64 l.1, .int .i64 l.2] 56 := by rw [hW2]; exact (Blk.new _ _ _ _ (by simp [hwz])).drew
  have h2 := hs1.old hb2
  have hkp2 := hk1.trans (Keep.of hb2)
  have hxN := (HPP.out.con.row 0 x HX.out).1
  have HPL : Hid (P.length = N) := Lib.hid HPP.out.con.pl
  have hxP : (x.1 : Int) < (P.length : Int) := by rw [HPL.out]; omega
  obtain ⟨gp, rfl, hgp, ⟨v0, a0⟩, fp, hs3, hk3⟩ := h2.setP (k := x.1) (by rw [HPL.out]; exact hxN) (-1)
  have hgb : gp ≠ w.heap.size := fun e => by
    have := (HH.out.l.lt gp rfl).2
    omega
  have hgb1 : gp ≠ w.heap.size + 1 := fun e => by
    have := (HH.out.l.lt gp rfl).2
    omega
  obtain ⟨W3, hW3⟩ := named (W2.setCell ⟨gp, x.1, none⟩ (.int .i64 (-1))).drew
  have HX3 : Hid (Blk W3 w.heap.size #[.int .i64 x.1, .int .i64 x.2] 56) := by rw [hW3]; exact Lib.hid (hx2.other _ _ (fun e => hgb e.symm)).drew
  have HL3 : Hid (Blk W3 (w.heap.size + 1) #[.int .i64 l.1, .int .i64 l.2] 56) := by rw [hW3]; exact Lib.hid (hl2.other _ _ (fun e => hgb1 e.symm)).drew
  have HS3 : Hid (HpS S W3 p (R.take n) (P.set x.1 (-1)) (.slice (some ⟨g, 0, none⟩) n cp) (.slice (some ⟨gp, 0, none⟩) P.length c')) := by rw [hW3]; exact Lib.hid hs3.drew
  have HK3 : Hid (Keep (fun b => ¬ S b) w W3) := by rw [hW3]; exact Lib.hid (hkp2.trans hk3).drew
  obtain ⟨b0, b1, -, -⟩ := hx2.o2
  obtain ⟨d0, d1, -, -⟩ := h2.k.o2
  have HW2 := Lib.hid (show (((w.setCell ⟨p, 0, none⟩ (.slice (some ⟨g, 0, none⟩) n cp)).alloc (.cells #[.int .i64 x.1, .int .i64 x.2] 56)).alloc (.cells #[.int .i64 l.1, .int .i64 l.2] 56)).drew = W2 from by rw [hW2, hws])
  have HW3 := Lib.hid hW3.symm
  have hnS : ¬ S w.heap.size := nS_of HSS.out
  have hnS1 : ¬ S (w.heap.size + 1) := fun h => by have := HSS.out _ h; omega
  clear hs1 hk1 hws hwz hW2 hb2 hx2 hl2 h2 hkp2 hs3 hk3 hW3
  go_enter Try.func12, Try.ntmps12
  go_wp2_with fail
  go_region
  go_wp2_with fail
  rw [HW2.out]
  clear cc0 cc1 f0 f1 x0 x1 y0 y1 HW2
  go_region
  rw [HW3.out]
  clear b0 b1 d0 d1 a0 fp HW3
  obtain ⟨b0, b1, -, -⟩ := HX3.out.o2
  by_cases hn0 : n = 0
  · have dn : decide (0 < n) = false := by simp; exact hn0
    have hT : R.take n = [] := by rw [hn0]; rfl
    have HS4 := HS3.out
    rw [hT] at HS4
    have HPO : Hid (∀ k, PopPost S w p N (upd m x.1 none) x (.returned (.tuple #[.int .i64 x.1, .int .i64 x.2, .bool true])) (W3.drewN k)) := Lib.hid fun k => ⟨rfl, _, _, _, _, HS4.old (below_drewN (Below.refl _ _) _), HPP.out.pop1 HX.out (by rw [HN.out, hn0]), HK3.out.trans (Keep.of (below_drewN (Below.refl _ _) _))⟩
    clear HS4 hT hn0
    go_wp2_with fail
    go_quiet (fail)
    go_wp2_with fail
    go_ret3
    exact HPO.out _
  · have dn : decide (0 < n) = true := by simp; omega
    obtain ⟨l0, l1, -, -⟩ := HL3.out.o2
    have HD := Lib.hid (HPP.out.pop HX.out HN.out (by omega) HL.out)
    clear hn0
    go_wp2_with fail
    refine (hsink_any HS3.out 0 l HD.out hN).mono ?_
    rintro e w5 ⟨rfl, R6, P6, hs6, hh6, hk6⟩
    obtain ⟨b2, b3, -, -⟩ := (hk6.blk HX3.out hnS).o2
    have HPO : Hid (∀ k, PopPost S w p N (upd m x.1 none) x (.returned (.tuple #[.int .i64 x.1, .int .i64 x.2, .bool true])) (w5.drewN k)) := Lib.hid fun k => ⟨rfl, _, _, _, _, hs6.old (below_drewN (Below.refl _ _) _), hh6, HK3.out.trans (hk6.trans (Keep.of (below_drewN (Below.refl _ _) _)))⟩
    clear hs6 hh6 hk6 b0 b1 l0 l1
    go_wp2_with fail
    go_quiet (fail)
    go_wp2_with fail
    go_ret3
    exact HPO.out _
end

end Go.Proofs.Ytmbeelakkiodaaa
