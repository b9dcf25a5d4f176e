/-
  Points in a row: the program's Order.
-/
import Derived.Test.YthfljimgpcignaaGreatDoorG17
import Derived.Test.YthfljimgpcignaaGreatDoorG16
import Derived.Test.YthfljimgpcignaaGreatDoorShelfS
namespace Go.Proofs.YthfljimgpcignaaGreatDoor
open Go.RowKit Go.Sort Go.Shelf Go.Lib

theorem cmpI_neg (x y : Int) : cmpI x y < 0 ↔ x < y := by unfold cmpI; repeat' split; all_goals omega
theorem cmpI_zero (x y : Int) : cmpI x y = 0 ↔ x = y := by unfold cmpI; repeat' split; all_goals omega
theorem cmpK_neg (l : List (Int × Int)) (d : Int) (a b : Nat) : cmpK l d a b < 0 ↔ Fore l d a b := by
  unfold cmpK Fore
  by_cases h : kAt l d a = kAt l d b
  · rw [if_pos ((cmpI_zero _ _).2 h), cmpI_neg]
    omega
  · rw [if_neg (fun e => h ((cmpI_zero _ _).1 e)), cmpI_neg]
    omega
def cfN (l : List (Int × Int)) (d : Int) (n : Nat) (x y : Fin n) : Int := cmpK l d x.1 y.1
section
variable {l : List (Int × Int)} {d : Int} {n : Nat}
theorem ltN (x y : Fin n) : ltOf (cfN l d n) x y = true ↔ Fore l d x.1 y.1 := by
  unfold ltOf cfN
  rw [decide_eq_true_eq, cmpK_neg]
theorem ltN_no (x y : Fin n) : ltOf (cfN l d n) x y = false ↔ ¬ Fore l d x.1 y.1 := by
  rw [← ltN (n := n), Bool.not_eq_true]
theorem swoN : SWO (ltOf (cfN l d n)) where
  irrefl x := by rw [ltN_no]; unfold Fore; omega
  trans x y z h1 h2 := by rw [ltN] at *; unfold Fore at *; omega
  ntrans x y z h1 h2 := by rw [ltN_no] at *; unfold Fore at *; omega
theorem totN (x y : Fin n) (h1 : ltOf (cfN l d n) x y = false) (h2 : ltOf (cfN l d n) y x = false) : x = y := by
  rw [ltN_no] at h1 h2
  unfold Fore at h1 h2
  exact Fin.ext (by omega)
/-- All places. -/
def finA (n : Nat) : Array (Fin n) := (List.ofFn fun i : Fin n => i).toArray
theorem finA_size : (finA n).size = n := by simp [finA]
theorem finA_val : (finA n).toList.map Fin.val = List.range n := by
  refine List.ext_getElem (by simp [finA]) fun i h1 h2 => ?_
  simp [finA]
/-- .. as the sort leaves them. -/
def sorN (l : List (Int × Int)) (d : Int) (n : Nat) : List (Fin n) := (finA n).toList.mergeSort fun x y => !(ltOf (cfN l d n)) y x
theorem sorN_len : (sorN l d n).length = n := by simp [sorN, finA]
theorem sorN_ord (hn : l.length = n) : OrdL l d ((sorN l d n).map Fin.val) := by
  have hp : (sorN l d n).Perm (finA n).toList := List.mergeSort_perm _ _
  have hp2 : ((sorN l d n).map Fin.val).Perm (List.range l.length) := by
    rw [hn, ← finA_val]
    exact hp.map _
  refine ⟨hp2, ?_⟩
  have h1 := List.pairwise_mergeSort (le := fun x y : Fin n => !(ltOf (cfN l d n)) y x)
    (fun a b c h1 h2 => by
      simp only [Bool.not_eq_true'] at *
      exact swoN.ntrans _ _ _ h2 h1)
    (fun a b => by
      cases e : ltOf (cfN l d n) b a with
      | false => rfl
      | true =>
        cases e2 : ltOf (cfN l d n) a b with
        | false => rfl
        | true =>
          rw [ltN] at e e2
          unfold Fore at e e2
          omega) (finA n).toList
  have h2 : ((sorN l d n).map Fin.val).Nodup := hp2.nodup_iff.2 List.nodup_range
  rw [List.pairwise_map]
  have h3 : (sorN l d n).Pairwise fun a b => a.1 ≠ b.1 := List.pairwise_map.1 h2
  refine (h1.and h3).imp fun {a b} h => ?_
  have h4 := h.1
  simp only [Bool.not_eq_true', ltN_no] at h4
  have h5 := h.2
  unfold Fore at h4 ⊢
  omega
end
/-! ### the sort's worlds -/
section
variable {α : Type} [Inhabited α] {enc : α → Value} {w : World} {blk m : Nat} {d : Array α} {os : Array Obj}
theorem sortW_keep : Keep (fun b => b ≠ blk) w (sortWorld enc w blk 0 m d os) := by
  refine ⟨rfl, rfl, rfl, ?_, fun k hk hp => ?_⟩
  · simp [sortWorld, grow, putRow, mapBlock]
  · have h1 : k < (w.heap.modify blk (onCells (putCells enc 0 d))).size := by simpa using hk
    show (w.heap.modify blk (onCells (putCells enc 0 d)) ++ os)[k]? = _
    rw [Array.getElem?_append_left h1, Array.getElem?_modify, if_neg (fun e => hp e.symm)]
theorem sortW_blk {cs : Array Value} {t : TypeId} (hk : Blk w blk cs t) (hs : cs.size = d.size) : Blk (sortWorld enc w blk 0 m d os) blk (d.map enc) t := by
  have h1 : blk < (w.heap.modify blk (onCells (putCells enc 0 d))).size := by simpa using hk.lt
  have e : putCells enc 0 d cs = d.map enc := by
    refine Array.ext (by simp [putCells, hs]) fun i h2 h3 => ?_
    have h4 : i < d.size := by simpa using h3
    simp [putCells, h4]
  unfold Blk at hk ⊢
  show (w.heap.modify blk (onCells (putCells enc 0 d)) ++ os)[blk]? = _
  rw [Array.getElem?_append_left h1, Array.getElem?_modify, if_pos rfl, hk]
  simp [onCells, e]
end
def OrdPost (w : World) (l : List (Int × Int)) (d : Int) (e : Ending) (w' : World) : Prop :=
  ∃ g o, e = .returned (.slice (some ⟨g, 0, none⟩) l.length l.length) ∧ OrdL l d o ∧ Blk w' g (numI (zN o)) 3 ∧ w.heap.size ≤ g ∧ Below w.heap.size w w'
/-- The loop's head. -/
def RangeRel (w : World) (g n : Nat) (iv : Value) (wr : World) : Prop := ∃ (k : Nat) (m : List Int), k ≤ n ∧ iv = .int .i64 k ∧ m.length = n ∧ (∀ i, i < k → m[i]? = some (i : Int)) ∧ Blk wr g (numI m) 3 ∧ Keep (fun b => b ≠ g) w wr
set_option maxHeartbeats 4000000 in
set_option maxRecDepth 100000 in
theorem order_is {w : World} {pv : Value} {l : List (Int × Int)} {d : Int} (h : Prs w pv l) (hs : SmallL l) (hn : l.length ≤ 10000) :
    Calls Tryz.prog 33 #[pv, .int .i64 d] w (OrdPost w l d) := by
  have hav := h.av
  obtain ⟨q, c, rfl⟩ := h.shape
  obtain ⟨x1, hx1⟩ := named (w.alloc (.cells #[.slice q l.length c] 22))
  obtain ⟨g1, hg1⟩ : ∃ g, w.heap.size = g := ⟨_, rfl⟩
  have k1 : Blk x1 g1 #[.slice q l.length c] 22 := by rw [hx1]; exact Blk.new _ _ _ _ hg1
  have b1 : Below w.heap.size w x1 := by rw [hx1]; exact below_alloc1 _
  obtain ⟨x2, hx2⟩ := named (x1.alloc (.cells #[.int .i64 d] 3))
  obtain ⟨g2, hg2⟩ : ∃ g, x1.heap.size = g := ⟨_, rfl⟩
  have k2 : Blk x2 g2 #[.int .i64 d] 3 := by rw [hx2]; exact Blk.new _ _ _ _ hg2
  have b2 : Below x1.heap.size x1 x2 := by rw [hx2]; exact below_alloc1 _
  obtain ⟨g3, hg3⟩ : ∃ g, x2.heap.size = g := ⟨_, rfl⟩
  have hmk := RI.make1 x2 39 3 (.int .i64 0) 8 rfl Tryz.underlying39 infoInt l.length (by omega) (by decide)
  rw [hg3] at hmk
  obtain ⟨x3, hx3⟩ := named (x2.alloc (.cells (List.replicate l.length (.int .i64 0)).toArray 3))
  rw [← hx3] at hmk
  have k3 : Blk x3 g3 (numI (List.replicate l.length 0)) 3 := by rw [hx3, numI_rep]; exact Blk.new _ _ _ _ hg3
  have b3 : Below x2.heap.size x2 x3 := by rw [hx3]; exact below_alloc1 _
  have b12 := bOn6 b1 b2
  have b13 := bOn6 b12 b3
  have HB := Lib.hid b13
  have HK1 := Lib.hid ((k1.keep b2).keep b3)
  have HK2 := Lib.hid (k2.keep b3)
  have HK3 := Lib.hid k3
  have HP := Lib.hid (h.below b13)
  have HAV := Lib.hid hav
  have HS := Lib.hid hs
  have HGS : Hid (w.heap.size ≤ g3 ∧ g1 ≠ g3 ∧ g2 ≠ g3 ∧ g3 < x3.heap.size) := Lib.hid ⟨by have := b12.size; omega, by have := (k1.keep b2).lt; omega, by have := k2.lt; omega, k3.lt⟩
  have c1 := (k1.keep b2).cell 0 rfl
  have l1 := (k1.keep b2).lt
  simp only [List.getElem_cons_zero, List.getElem_toArray] at c1
  have e1 := hx1.symm
  have e2 := hx2.symm
  clear h hs hav k1 k2 k3 b1 b2 b3 b12 b13 hx1 hx2 hx3
  go_enter Tryz.func33, Tryz.ntmps33
  go_wp2_with fail
  clear e1 e2 hg1 hg2 hg3 hmk c1 l1
  go_loopw [6, 12] (fun _ iv wr => RangeRel x3 g3 l.length iv wr) (fun _ iv _ => l.length - (intOf iv).toNat)
  case atStart => exact ⟨0, _, Nat.zero_le _, rfl, by simp, fun i h => by omega, HK3.out, Keep.refl _ _⟩
  case round =>
    clear HK3
    obtain ⟨k, m, hk, rfl, hml, hmv, hkb, hb⟩ := hrel
    by_cases hlt : k < l.length
    · have hki : (k : Int) < (l.length : Int) := by omega
      obtain ⟨u0, xc⟩ : ∃ u0, wr.cell? ⟨g3, k, none⟩ = some u0 := ⟨_, hkb.cell k (numI_at (l := m) (by omega))⟩
      have xf := hkb.free k
      have xl := hkb.lt
      have hk2 := hkb.set k (.int .i64 (k : Int))
      rw [numI_set] at hk2
      have HR : Hid (Blk (wr.setCell ⟨g3, k, none⟩ (.int .i64 (k : Int))) g3 (numI (m.set k (k : Int))) 3 ∧ Keep (fun b => b ≠ g3) wr (wr.setCell ⟨g3, k, none⟩ (.int .i64 (k : Int)))) := Lib.hid ⟨hk2, (Keep.refl _ _).setCell (fun h => h rfl) _ _⟩
      have HV : Hid (∀ i, i < k + 1 → (m.set k (k : Int))[i]? = some (i : Int)) := Lib.hid fun i hi => by
        by_cases e : i = k
        · subst e
          rw [List.getElem?_set_self (by omega)]
        · rw [List.getElem?_set_ne (by omega)]
          exact hmv i (by omega)
      have HL : Hid ((m.set k (k : Int)).length = l.length) := Lib.hid (by rw [List.length_set]; exact hml)
      have HB2 := Lib.hid hb
      clear hk2 hkb hb hml hmv
      go_wp2_with fail
      go_roundw
      case rel => exact ⟨k + 1, m.set k (k : Int), hlt, by go_num, HL.out, HV.out, HR.out.1, HB2.out.trans HR.out.2⟩
      case measure => simp [intOf]; omega
    · obtain rfl : k = l.length := by omega
      obtain rfl : m = zN (List.range l.length) := List.ext_getElem? fun i => by
        by_cases hi : i < l.length
        · rw [hmv i hi]
          simp [zN, hi]
        · rw [List.getElem?_eq_none (by omega), List.getElem?_eq_none (by rw [zN_len]; simpa using hi)]
      have K1 := Lib.hid (hb.blk HK1.out HGS.out.2.1)
      have K2 := Lib.hid (hb.blk HK2.out HGS.out.2.2.1)
      have K3 := Lib.hid hkb
      have HPR := Lib.hid (HP.out.keep (HAV.out.mono fun b hb2 => by have := HGS.out.1; omega) hb)
      have HB2 := Lib.hid (HB.out.trans (hb.below (B := w.heap.size) (fun b hb2 => by have := HGS.out.1; omega) HB.out.size))
      have HG3 : Hid (g3 < wr.heap.size) := Lib.hid hkb.lt
      clear hkb hb hml hmv hlt hk HK1 HK2 HP HB
      rcases Nat.eq_zero_or_pos l.length with h0 | hpos
      · have hcon := Tryz.slices_SortFunc_none (α := Unit) (some ⟨g3, 0, none⟩) 0 (.func (.func 48) #[] #[.pointer (some ⟨g1, 0, none⟩), .pointer (some ⟨g2, 0, none⟩)]) wr
        have HC := Lib.hid hcon
        have HL0 := Lib.hid h0
        have HPO : Hid (OrdPost w l d (.returned (.slice (some ⟨g3, 0, none⟩) l.length l.length)) wr) := Lib.hid ⟨g3, [], rfl, ⟨by rw [HL0.out]; exact List.Perm.refl _, List.Pairwise.nil⟩, by have := K3.out; rw [HL0.out] at this; exact this, HGS.out.1, HB2.out⟩
        rw [h0] at HPO ⊢
        clear hcon h0
        go_wp2_with fail
        refine (HC.out).mono ?_
        rintro e w4 ⟨rfl, rfl⟩
        go_wp2_with fail
        go_ret
        exact HPO.out
      · haveI : Inhabited (Fin l.length) := ⟨⟨0, hpos⟩⟩
        have eg : ∀ args w, (callFunc 48 args).run Tryz.prog w = .ok (.enter 48 args) w := enters_of Tryz.func48 (by kernel_rfl) rfl
        have hH : Holds (fun x : Fin l.length => Value.int .i64 (x.1 : Int)) wr g3 0 (finA l.length) := fun j hj => by
          rw [finA_size] at hj
          refine ⟨?_, K3.out.free _⟩
          have e : (finA l.length)[j]! = ⟨j, hj⟩ := by
            rw [getElem!_pos _ _ (by rw [finA_size]; exact hj)]
            simp [finA]
          rw [e, Nat.zero_add]
          exact K3.out.cell j (by simp [numI, zN, hj])
        have hcmp : CmpLays1 Tryz.prog 48 #[.pointer (some ⟨g1, 0, none⟩), .pointer (some ⟨g2, 0, none⟩)] (fun x : Fin l.length => Value.int .i64 (x.1 : Int)) (cfN l d l.length) g3 0 (finA l.length).size wr := fun m os dk _ x y =>
          stand_is (sortW_keep.blk K1.out HGS.out.2.1) (sortW_keep.blk K2.out HGS.out.2.2.1) (HPR.out.keep (HAV.out.mono fun b hb2 => by have := HGS.out.1; omega) sortW_keep) HS.out x.2 y.2 rfl
        have hcon := Tryz.slices_SortFunc_total (fun x : Fin l.length => Value.int .i64 (x.1 : Int)) (fun _ => rfl) (cfN l d l.length) swoN 48 #[.pointer (some ⟨g1, 0, none⟩), .pointer (some ⟨g2, 0, none⟩)] g3 0 l.length (finA l.length) wr eg hcmp hH HG3.out (by rw [finA_size]; omega) totN
        rw [finA_size] at hcon
        have HC := Lib.hid hcon
        clear hcon eg hcmp hH
        go_wp2_with fail
        refine (HC.out).mono ?_
        rintro e w4 ⟨rfl, nd, os, hw4⟩
        have HPO : Hid (OrdPost w l d (.returned (.slice (some ⟨g3, 0, none⟩) l.length l.length)) w4) := Lib.hid ⟨g3, (sorN l d l.length).map Fin.val, rfl, sorN_ord rfl, by
          have := sortW_blk (enc := fun x : Fin l.length => Value.int .i64 (x.1 : Int)) (m := nd) (d := (sorN l d l.length).toArray) (os := os) K3.out (by simp [numI, zN, sorN_len])
          rw [hw4]
          have e : numI (zN ((sorN l d l.length).map Fin.val)) = Array.map (fun x : Fin l.length => Value.int .i64 (x.1 : Int)) (sorN l d l.length).toArray := by
            simp [numI, zN, Function.comp_def]
          rw [e]
          exact this, HGS.out.1, by
          rw [hw4]
          exact HB2.out.trans (sortW_keep.below (B := w.heap.size) (fun b hb2 => by have := HGS.out.1; omega) HB2.out.size)⟩
        clear hw4
        go_wp2_with fail
        go_ret
        exact HPO.out
end Go.Proofs.YthfljimgpcignaaGreatDoor
