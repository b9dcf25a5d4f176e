/-
  What can be reached, from where what can be: the program's sides.
-/
import Derived.Test.YtleheaffipokfaaDoorFlS
namespace Go.Proofs.YtleheaffipokfaaDoor
open Go.RowKit

/-- A row of marks that grows, beside a row of numbers. -/
structure SideM (w : World) (ob B : Nat) (off : List Int) (l : List Bool) (v : Value) (wr : World) : Prop where
  o : Blk wr ob (numI off) 3
  r : wr.ownsRow B 4 1 v l.length (l.map Value.bool)
  b : Below w.heap.size w wr
  lo : w.heap.size ≤ B
  ob : ob < B
  sz : B ≤ wr.heap.size
section
variable {w wr wr' : World} {ob B : Nat} {off : List Int} {l : List Bool} {v : Value}
theorem SideM.old (h : SideM w ob B off l v wr) (hb : Below wr.heap.size wr wr') : SideM w ob B off l v wr' :=
  ⟨h.o.keep hb, own_below h.r hb, bOn6 h.b hb, h.lo, h.ob, Nat.le_trans h.sz hb.size⟩
theorem SideM.app (h : SideM w ob B off l v wr) (x : Bool) {g : Nat} (hb : Below wr.heap.size wr wr') (hg : Blk wr' g #[.bool x] 4) (hl : l.length ≤ 100000) :
    ∃ q c w', (Builtin.append_ #[24, 24] 24 #[v, .slice (some ⟨g, 0, none⟩) 1 1]).run Tryd.prog wr' = .ok (.slice q (l.length + 1) c) w' ∧ SideM w ob B off (l ++ [x]) (.slice q (l.length + 1) c) w' := by
  have h' := h.old hb
  obtain ⟨q, c, w', hr, h1, h2⟩ := app1 (x := .bool x) Tryd.underlying24 infoBool rfl rfl (by decide) h'.r hg hl h'.sz
  refine ⟨q, c, w', hr, h'.o.grownO h2 (own_ne h'.r h'.ob), ?_, below_grownO h'.b h2 (fun g hg => by have := own_ge h'.r g hg; have := h.lo; omega), h.lo, h.ob, Nat.le_trans h'.sz h2.size⟩
  rw [List.length_append, List.map_append]
  exact h1
end
theorem map_take_snoc {p : Int → Bool} {l : List Int} {k : Nat} (h : k < l.length) : (l.take (k + 1)).map p = (l.take k).map p ++ [p (oL l k)] := by
  rw [List.take_add_one, List.getElem?_eq_getElem h, List.map_append, oL_at h]
  rfl
/-- The loop's head. -/
def SideRel (w : World) (ob B : Nat) (off : List Int) (p : Int → Bool) (v iv : Value) (wr : World) : Prop :=
  ∃ (k : Nat) (l : List Bool), k ≤ off.length ∧ iv = .int .i64 k ∧ Hid (l = (off.take k).map p) ∧ SideM w ob B off l v wr
theorem own_av0 {P : Nat → Prop} {w : World} {base : Nat} {e : TypeId} {size : Nat} {v : Value} {n : Nat} {xs : List Value} (h : w.ownsRow base e size v n xs) (hp : ∀ g, base ≤ g → P g) : Av P v := by
  rcases h.2 with ⟨rfl, e0⟩ | ⟨g, cap, cur, rfl, hg, _⟩
  · exact Av.nil _ _ _
  · exact Av.at (hp g hg)
/-- What sides answers. -/
def SidesPost (w : World) (N : Nat) (E : Edg) (f : List Int) (A B : VSet) (e : Ending) (w' : World) : Prop :=
  ∃ nv gv near far, e = .returned (.tuple #[nv, gv]) ∧ Bools w' nv near ∧ Bools w' gv far ∧ near.length = N ∧ far.length = N ∧ (∀ v, v < N → (setB near v = true ↔ Rch E f 1 A v)) ∧ (∀ v, v < N → (setB far v = false ↔ Rch E f (-1) B v)) ∧ Below w.heap.size w w' ∧ Av (fun b => w.heap.size ≤ b) nv ∧ Av (fun b => w.heap.size ≤ b) gv
theorem setB_map {l : List Int} {p : Int → Bool} {v : Nat} (h : v < l.length) : setB (l.map p) v = p (oL l v) := by
  rw [setB_at (by simpa using h), oL_at h]
  simp

section
variable {P : Nat → Prop} {w : World} {p N : Nat} {E : Edg} {A B : List Bool} {f : List Int} {ev sv dv fv : Value} {ab : Nat} {us : List Value}
set_option maxHeartbeats 4000000 in
set_option maxRecDepth 100000 in
theorem sides_is (h : WebS P w p N E A B ev sv dv fv ab us) (hf : I64s w fv f) (hfl : f.length = E.length) :
    Calls Tryd.prog 16 #[pt p] w (SidesPost w N E f (setB A) (setB B)) := by
  obtain ⟨x0, x1, x2, x3, x4, -, -, -, -, -⟩ := h.k.o5
  have hpl := h.k.lt
  have hnn := h.nn
  have HW := Lib.hid h
  have HF := Lib.hid hf
  have HFL := Lib.hid hfl
  clear h hf hfl
  go_enter Tryd.func16, Tryd.ntmps16
  go_wp2_with fail
  clear x0 x1 x2 x3 x4
  refine (steps_is HW.out HF.out HFL.out HW.out.s HW.out.al (Or.inl rfl)).mono ?_
  rintro e w1 ⟨ob, off, rfl, ho, hlo, hq, hb1⟩
  have HQ := Lib.hid hq
  have hlen := hq.len
  have HB1 := Lib.hid hb1
  have HM1 : Hid (SideM w ob w1.heap.size off [] (.slice none 0 0) w1) := Lib.hid ⟨ho, World.ownsRow_nil _ _ _ _, hb1, hb1.size, ho.lt, Nat.le_refl _⟩
  obtain ⟨B1, hB1⟩ : ∃ B1, w1.heap.size = B1 := ⟨_, rfl⟩
  rw [hB1] at HM1
  clear hq hb1 hlo ho hB1
  go_wp2_with fail
  go_loopw [2, 5, 15] (fun v _ iv wr => SideRel w ob B1 off (fun x => x != -1) v iv wr) (fun _ _ iv _ => N - (intOf iv).toNat)
  case atStart => exact ⟨0, [], Nat.zero_le _, rfl, Lib.hid rfl, HM1.out⟩
  case round =>
    obtain ⟨k, l, hk, rfl, HL, hs⟩ := hrel
    obtain ⟨q9, c9, rfl⟩ := own_shape hs.r
    have HLK : Hid (l.length = k) := Lib.hid (by rw [HL.out, List.length_map, List.length_take]; omega)
    by_cases hlt : k < off.length
    · have hki : (k : Int) < (N : Int) := by omega
      have hc := hs.o.cell k (numI_at hlt)
      have hol := hs.o.lt
      rw [← oL_at hlt] at hc
      obtain ⟨q2, c2, w5, hr5, hs5⟩ := hs.app (oL off k != -1) (below_alloc1 _) (Blk.new _ _ _ wr.heap.size rfl) (by have := HLK.out; omega)
      have HL2 : Hid (l ++ [oL off k != -1] = (off.take (k + 1)).map (fun x => x != -1)) := Lib.hid (by rw [map_take_snoc (p := fun x => x != -1) hlt, HL.out])
      have HR : Hid (SideRel w ob B1 off (fun x => x != -1) (.slice q2 (l.length + 1) c2) (.int .i64 ((k + 1 : Nat) : Int)) w5) := Lib.hid ⟨k + 1, _, hlt, rfl, HL2, hs5⟩
      have HR5 := Lib.hid hr5
      clear hs hs5 hr5 HM1 HL2 HL
      go_wp2_with (at_builtin; refine wpList_append_run (by rfl) _ _ _ rfl _ _ _ rfl rfl HR5.out ?_)
      go_roundw
      case rel => exact HR.out
      case measure => simp [intOf]; omega
    · obtain rfl : k = N := by omega
      have HN1 : Hid (Bools wr (.slice q9 l.length c9) l) := Lib.hid (bools_of_owns hs.r (by have := HLK.out; omega))
      have HAV1 : Hid (Av (fun b => w.heap.size ≤ b) (.slice q9 l.length c9)) := Lib.hid (own_av0 hs.r (fun g hg => Nat.le_trans hs.lo hg))
      have HLL : Hid (l.length = k ∧ l = off.map (fun x => x != -1)) := Lib.hid ⟨HLK.out, by rw [HL.out, ← hlen, List.take_length]⟩
      have HB2 := Lib.hid hs.b
      obtain ⟨x0, x1, x2, x3, x4, -, -, -, -, -⟩ := (HW.out.old hs.b).k.o5
      have hpl := (HW.out.old hs.b).k.lt
      have hdk : decide (k < k) = false := by simp
      clear HM1 hs HL hlt HLK hk
      go_wp2_with fail
      clear x0 x1 x2 x3 x4
      refine (steps_is (HW.out.old HB2.out) (HF.out.below HB2.out) HFL.out (HW.out.old HB2.out).d HW.out.bl (Or.inr rfl)).mono ?_
      rintro e w2 ⟨ob2, off2, rfl, ho, hlo, hq, hb1⟩
      have HQ2 := Lib.hid hq
      have hlen2 := hq.len
      have HN2 := Lib.hid (HN1.out.below hb1)
      have HB3 := Lib.hid (bOn6 HB2.out hb1)
      have HM2 : Hid (SideM w2 ob2 w2.heap.size off2 [] (.slice none 0 0) w2) := Lib.hid ⟨ho, World.ownsRow_nil _ _ _ _, Below.refl _ _, Nat.le_refl _, ho.lt, Nat.le_refl _⟩
      clear hq hb1 hlo ho HN1 HB2
      go_wp2_with fail
      go_loopw [3, 7, 32] (fun v _ iv wr => SideRel w2 ob2 w2.heap.size off2 (fun x => x == -1) v iv wr) (fun _ _ iv _ => k - (intOf iv).toNat)
      case atStart => exact ⟨0, [], Nat.zero_le _, rfl, Lib.hid rfl, HM2.out⟩
      case round =>
        obtain ⟨j, l2, hj, rfl, HL, hs⟩ := hrel
        obtain ⟨q8, c8, rfl⟩ := own_shape hs.r
        have HLK : Hid (l2.length = j) := Lib.hid (by rw [HL.out, List.length_map, List.length_take]; omega)
        by_cases hlt : j < off2.length
        · have hki : (j : Int) < (k : Int) := by omega
          have hc := hs.o.cell j (numI_at hlt)
          have hol := hs.o.lt
          rw [← oL_at hlt] at hc
          obtain ⟨q2, c2, w5, hr5, hs5⟩ := hs.app (oL off2 j == -1) (below_alloc1 _) (Blk.new _ _ _ wr.heap.size rfl) (by have := HLK.out; omega)
          have HL2 : Hid (l2 ++ [oL off2 j == -1] = (off2.take (j + 1)).map (fun x => x == -1)) := Lib.hid (by rw [map_take_snoc (p := fun x => x == -1) hlt, HL.out])
          have HR : Hid (SideRel w2 ob2 w2.heap.size off2 (fun x => x == -1) (.slice q2 (l2.length + 1) c2) (.int .i64 ((j + 1 : Nat) : Int)) w5) := Lib.hid ⟨j + 1, _, hlt, rfl, HL2, hs5⟩
          have HR5 := Lib.hid hr5
          clear hs hs5 hr5 HM2 HL2 HL
          go_wp2_with (at_builtin; refine wpList_append_run (by rfl) _ _ _ rfl _ _ _ rfl rfl HR5.out ?_)
          go_roundw
          case rel => exact HR.out
          case measure => simp [intOf]; omega
        · obtain rfl : j = k := by omega
          have hn : off.length = j := hlen
          have HP : Hid (SidesPost w j E f (setB A) (setB B) (.returned (.tuple #[.slice q9 l.length c9, .slice q8 l2.length c8])) wr) := Lib.hid ⟨_, _, l, l2, rfl, HN2.out.below hs.b, bools_of_owns hs.r (by have := HLK.out; omega), HLL.out.1, HLK.out, fun v hv => by
            rw [HLL.out.2, setB_map (by omega)]
            rw [← HQ.out.rch v hv]
            simp, fun v hv => by
            rw [HL.out, ← hlen2, List.take_length, setB_map (by omega), ← HQ2.out.rch v hv]
            simp, bOn6 HB3.out hs.b, HAV1.out, own_av0 hs.r (fun g hg => Nat.le_trans (Nat.le_trans HB3.out.size hs.lo) hg)⟩
          have hdk : decide (j < j) = false := by simp
          clear HM2 hs HL hlt HLK hj hn
          go_wp2_with fail
          go_ret2
          exact HP.out
end
end Go.Proofs.YtleheaffipokfaaDoor
