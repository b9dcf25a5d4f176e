/-
  What may be handed in: the program's check; are two rows of marks the same.
-/
import Derived.Test.YtleheaffipokfaaDoorFlF
namespace Go.Proofs.YtleheaffipokfaaDoor
open Go.RowKit

/-- What is handed in and may be, as numbers from 0 on. -/
theorem OkA.edges {n : Int} {l : List (Int × Int)} {src dst : List Int} (h : OkA n l src dst) : ∃ (N : Nat) (E : Edg) (S D : List Nat), n = N ∧ l = zE E ∧ EdgIn N E ∧ src = zN S ∧ dst = zN D ∧ (∀ x, x ∈ S → x < N) ∧ ∀ x, x ∈ D → x < N := by
  obtain ⟨N, hN⟩ : ∃ N : Nat, n = N := ⟨n.toNat, by have := h.n0; omega⟩
  have row : ∀ r : List Int, (∀ x, x ∈ r → 0 ≤ x ∧ x < n) → r = zN (r.map Int.toNat) ∧ ∀ x, x ∈ r.map Int.toNat → x < N := fun r hr => by
    constructor
    · unfold zN
      rw [List.map_map]
      conv => lhs; rw [← List.map_id r]
      refine List.map_congr_left fun x hx => ?_
      have := hr x hx
      simp
      omega
    · intro x hx
      obtain ⟨y, hy, rfl⟩ := List.mem_map.1 hx
      have := hr y hy
      omega
  refine ⟨N, l.map fun e => (e.1.toNat, e.2.toNat), src.map Int.toNat, dst.map Int.toNat, hN, ?_, ?_, (row src h.s).1, (row dst h.d).1, (row src h.s).2, (row dst h.d).2⟩
  · unfold zE
    rw [List.map_map]
    conv => lhs; rw [← List.map_id l]
    refine List.map_congr_left fun x hx => ?_
    have := h.e x hx
    refine Prod.ext ?_ ?_
    · simp; omega
    · simp; omega
  · intro i hi
    rw [List.length_map] at hi
    have := h.e l[i] (List.getElem_mem hi)
    unfold eL
    rw [List.getD_eq_getElem?_getD, List.getElem?_map, List.getElem?_eq_getElem hi]
    simp
    omega
def zPair (N : Int) (x : Int × Int) : Prop := (0 ≤ x.1 ∧ x.1 < N) ∧ (0 ≤ x.2 ∧ x.2 < N)
/-- What check answers. -/
def ChkPost (w : World) (n : Int) (l : List (Int × Int)) (src dst : List Int) (e : Ending) (w' : World) : Prop :=
  Below w.heap.size w w' ∧ ((OkA n l src dst ∧ ¬ Twice src dst ∧ e = .returned .nilIface) ∨ (OkA n l src dst ∧ Twice src dst ∧ ∃ g, e = .returned (.iface 59 (pt g)) ∧ FaultAt w' g ⟨#[102, 108, 111, 119]⟩ 2 6) ∨ (¬ OkA n l src dst ∧ ∃ g, e = .returned (.iface 59 (pt g))))
theorem zN_mem {S : List Nat} {x : Int} : x ∈ zN S ↔ ∃ v : Nat, v ∈ S ∧ x = v := by
  unfold zN
  rw [List.mem_map]
  exact ⟨fun ⟨v, h, e⟩ => ⟨v, h, e.symm⟩, fun ⟨v, h, e⟩ => ⟨v, h, e.symm⟩⟩
theorem twice_marks {N : Nat} {S D : List Nat} (hD : ∀ x, x ∈ D → x < N) : (∃ x, x ∈ D ∧ setB (markL N S) x = true) ↔ Twice (zN S) (zN D) := by
  constructor
  · rintro ⟨x, hx, hm⟩
    rw [markL_in (hD x hx)] at hm
    exact ⟨x, zN_mem.2 ⟨x, by simpa using hm, rfl⟩, zN_mem.2 ⟨x, hx, rfl⟩⟩
  · rintro ⟨x, h1, h2⟩
    obtain ⟨v, hv, rfl⟩ := zN_mem.1 h1
    obtain ⟨u, hu, e⟩ := zN_mem.1 h2
    obtain rfl : v = u := by omega
    exact ⟨v, hu, by rw [markL_in (hD v hu)]; simpa using hv⟩

section
variable {w : World} {n : Int} {l : List (Int × Int)} {src dst : List Int} {ev sv dv : Value}
set_option maxHeartbeats 4000000 in
set_option maxRecDepth 100000 in
theorem check_is (he : Prs w ev l) (hs : I64s w sv src) (hd : I64s w dv dst) (hn : n ≤ 4096) (hl : l.length ≤ 16384) (hsl : src.length ≤ 1000000) (hdl : dst.length ≤ 1000000) :
    Calls Tryd.prog 13 #[.int .i64 n, ev, sv, dv] w (ChkPost w n l src dst) := by
  obtain ⟨q, c, rfl⟩ := he.shape
  have HE := Lib.hid he
  have HS := Lib.hid hs
  have HD := Lib.hid hd
  have HL := Lib.hid hl
  clear he hs hd
  go_enter Tryd.func13, Tryd.ntmps13
  go_wp2_with fail
  refine (counts_is n l.length _ hn HL.out).mono ?_
  rintro e w1 ⟨hb1, ⟨h0, rfl⟩ | ⟨h0, g, rfl⟩⟩
  case inr =>
    have HP : Hid (ChkPost w n l src dst (.returned (.iface 59 (pt g))) w1) := Lib.hid ⟨hb1, Or.inr (Or.inr ⟨fun h => h0 h.n0, g, rfl⟩)⟩
    clear hb1 h0
    go_wp2_with fail
    go_ret
    exact HP.out
  have HB1 := Lib.hid hb1
  have H0 := Lib.hid h0
  clear hb1 h0
  go_wp2_with fail
  go_loopw [10, 11, 24] (fun _ _ iv wr => ∃ k : Nat, k ≤ l.length ∧ iv = .int .i64 k ∧ Hid (∀ x, x ∈ l.take k → zPair n x) ∧ Hid (Below w.heap.size w wr)) (fun _ _ iv _ => l.length - (intOf iv).toNat)
  case atStart => exact ⟨0, Nat.zero_le _, rfl, Lib.hid (by simp), HB1⟩
  case round =>
    obtain ⟨k, hk, rfl, HK, HB⟩ := hrel
    by_cases hlt : k < l.length
    · have hki : (k : Int) < (l.length : Int) := by omega
      obtain ⟨eb, eo, rfl, e0, e1⟩ := (HE.out.below HB.out).at hlt
      obtain ⟨⟨a, b⟩, hx⟩ : ∃ x, l[k] = x := ⟨_, rfl⟩
      rw [hx] at e0 e1
      simp only at e0 e1
      have HX := Lib.hid hx
      have hel := World.block_lt_of_cell? wr _ e0
      obtain ⟨W3, hW3⟩ := named (wr.alloc (.cells #[.int .i64 a, .int .i64 b] 33))
      have hb3 : Below wr.heap.size wr W3 := by rw [hW3]; exact below_alloc1 _
      obtain ⟨gg, hgg⟩ : ∃ gg, wr.heap.size = gg := ⟨_, rfl⟩
      have kg : Blk W3 gg #[.int .i64 a, .int .i64 b] 33 := by rw [hW3]; exact Blk.new _ _ _ _ hgg
      obtain ⟨d0, d1, -⟩ := kg.o2
      have hgl := kg.lt
      have HB3 := Lib.hid (bOn6 HB.out hb3)
      have e3 := hW3.symm
      clear hx hW3 hb3 kg HB
      by_cases ha : 0 ≤ a ∧ a < n
      · have HA : Hid (decide (0 ≤ a ∧ a < n) = true) := Lib.hid (by simpa using ha)
        by_cases hbn : 0 ≤ b ∧ b < n
        · have HBN : Hid (decide (0 ≤ b ∧ b < n) = true) := Lib.hid (by simpa using hbn)
          have HN : Hid (∀ y, y ∈ l.take (k + 1) → zPair n y) := Lib.hid fun y hy => by
            rw [List.take_succ_eq_append_getElem hlt, HX.out] at hy
            rcases List.mem_append.1 hy with hy | hy
            · exact HK.out y hy
            · simp at hy
              subst hy
              exact ⟨ha, hbn⟩
          clear ha hbn
          go_wp2_with fail
          refine (among_is a n true _ HA.out).mono ?_
          rintro e w' ⟨rfl, rfl⟩
          go_wp2_with fail
          refine (among_is b n true _ HBN.out).mono ?_
          rintro e w' ⟨rfl, rfl⟩
          go_wp2_with fail
          go_roundw
          case rel => exact ⟨k + 1, hlt, by go_num, HN, HB3⟩
          case measure => simp [intOf]; omega
        · have HBN : Hid (decide (0 ≤ b ∧ b < n) = false) := Lib.hid (by simpa using hbn)
          have HNO : Hid (¬ OkA n l src dst) := Lib.hid fun h => hbn (by have := (h.e l[k] (List.getElem_mem hlt)).2; rw [HX.out] at this; exact this)
          clear ha hbn
          go_wp2_with fail
          refine (among_is a n true _ HA.out).mono ?_
          rintro e w' ⟨rfl, rfl⟩
          go_wp2_with fail
          refine (among_is b n false _ HBN.out).mono ?_
          rintro e w' ⟨rfl, rfl⟩
          go_wp2_with fail
          refine (fault_is _ _ _ _).mono ?_
          rintro e w' ⟨g, rfl, -, hb⟩
          have HP : Hid (ChkPost w n l src dst (.returned (.iface 59 (pt g))) w') := Lib.hid ⟨bOn6 HB3.out hb, Or.inr (Or.inr ⟨HNO.out, g, rfl⟩)⟩
          clear hb
          go_wp2_with fail
          go_ret
          exact HP.out
      · have HA : Hid (decide (0 ≤ a ∧ a < n) = false) := Lib.hid (by simpa using ha)
        have HNO : Hid (¬ OkA n l src dst) := Lib.hid fun h => ha (by have := (h.e l[k] (List.getElem_mem hlt)).1; rw [HX.out] at this; exact this)
        clear ha
        go_wp2_with fail
        refine (among_is a n false _ HA.out).mono ?_
        rintro e w' ⟨rfl, rfl⟩
        go_wp2_with fail
        refine (fault_is _ _ _ _).mono ?_
        rintro e w' ⟨g, rfl, -, hb⟩
        have HP : Hid (ChkPost w n l src dst (.returned (.iface 59 (pt g))) w') := Lib.hid ⟨bOn6 HB3.out hb, Or.inr (Or.inr ⟨HNO.out, g, rfl⟩)⟩
        clear hb
        go_wp2_with fail
        go_ret
        exact HP.out
    · obtain rfl : k = l.length := by omega
      have HLA : Hid (∀ x, x ∈ l → zPair n x) := Lib.hid (by have := HK.out; rwa [List.take_length] at this)
      clear HK HB1
      go_wp2_with fail
      refine (checkSet_is _ n (HS.out.below HB.out) hsl).mono ?_
      rintro e w2 ⟨hb2, ⟨hs, rfl⟩ | ⟨hs, g, rfl⟩⟩
      case inr =>
        have HP : Hid (ChkPost w n l src dst (.returned (.iface 59 (pt g))) w2) := Lib.hid ⟨bOn6 HB.out hb2, Or.inr (Or.inr ⟨fun h => hs h.s, g, rfl⟩)⟩
        clear hb2 hs
        go_wp2_with fail
        go_ret
        exact HP.out
      have HB2 := Lib.hid (bOn6 HB.out hb2)
      have HSN := Lib.hid hs
      clear hb2 hs HB
      go_wp2_with fail
      refine (checkSet_is _ n (HD.out.below HB2.out) hdl).mono ?_
      rintro e w3 ⟨hb3, ⟨hd, rfl⟩ | ⟨hd, g, rfl⟩⟩
      case inr =>
        have HP : Hid (ChkPost w n l src dst (.returned (.iface 59 (pt g))) w3) := Lib.hid ⟨bOn6 HB2.out hb3, Or.inr (Or.inr ⟨fun h => hd h.d, g, rfl⟩)⟩
        clear hb3 hd
        go_wp2_with fail
        go_ret
        exact HP.out
      have HB3 := Lib.hid (bOn6 HB2.out hb3)
      have HOK : Hid (OkA n l src dst) := Lib.hid ⟨H0.out, HLA.out, HSN.out, hd⟩
      obtain ⟨N, E, S, D, hN, -, -, hS, hD, hSN, hDN⟩ := HOK.out.edges
      subst hN hS hD
      rw [zN_len] at hsl hdl
      have HSN2 := Lib.hid hSN
      have HDN2 := Lib.hid hDN
      have HDV := Lib.hid (HD.out.below HB3.out)
      have HSV := Lib.hid (HS.out.below HB3.out)
      have HSL := Lib.hid hsl
      have HDL := Lib.hid hdl
      clear hb3 hd HB2 hSN hDN hsl hdl
      go_wp2_with fail
      refine (marks_is HSV.out HSN2.out (by omega) HSL.out).mono ?_
      rintro e w4 ⟨rfl, hk4, hb4⟩
      obtain ⟨mb, hmb⟩ : ∃ mb, w3.heap.size = mb := ⟨_, rfl⟩
      rw [hmb] at hk4
      rw [hmb]
      have HB4 := Lib.hid (bOn6 HB3.out hb4)
      have HK4 := Lib.hid hk4
      have HDV4 := Lib.hid (HDV.out.below hb4)
      clear hk4 hb4 hmb HB3 HDV HSV
      go_wp2_with fail
      obtain ⟨W5, hW5⟩ := named (w4.alloc (.cells #[.slice (some ⟨mb, 0, none⟩) N N] 24))
      rw [← hW5]
      have hb5 : Below w4.heap.size w4 W5 := by rw [hW5]; exact below_alloc1 _
      have kg : Blk W5 w4.heap.size #[.slice (some ⟨mb, 0, none⟩) N N] 24 := by rw [hW5]; exact Blk.new _ _ _ _ rfl
      have HB5 := Lib.hid (bOn6 HB4.out hb5)
      refine (containsC_is (kg.o1).1 (bools_of_blk (HK4.out.keep hb5) markL_len (by omega)) (HDV4.out.below hb5) (by rw [markL_len]; exact HDN2.out) HDL.out).mono ?_
      rintro e w6 ⟨b, rfl, hbb, rfl⟩
      rw [twice_marks HDN2.out] at hbb
      have HBT : Hid (b = true → Twice (zN S) (zN D)) := Lib.hid hbb.1
      have HBF : Hid (b = false → ¬ Twice (zN S) (zN D)) := Lib.hid fun e h => by rw [hbb.2 h] at e; cases e
      clear hW5 hb5 kg hbb HB4 HK4 HDV4
      cases b with
      | true =>
        have HBT2 : Hid (Twice (zN S) (zN D)) := Lib.hid (HBT.out rfl)
        clear HBT HBF
        go_wp2_with fail
        refine (fault_is _ _ _ _).mono ?_
        rintro e w' ⟨g, rfl, hf, hb⟩
        have HP : Hid (ChkPost w N l (zN S) (zN D) (.returned (.iface 59 (pt g))) w') := Lib.hid ⟨bOn6 HB5.out hb, Or.inr (Or.inl ⟨HOK.out, HBT2.out, g, rfl, hf⟩)⟩
        clear hb hf
        go_wp2_with fail
        go_ret
        exact HP.out
      | false =>
        have HP : Hid (ChkPost w N l (zN S) (zN D) (.returned .nilIface) W5) := Lib.hid ⟨HB5.out, Or.inl ⟨HOK.out, HBF.out rfl, rfl⟩⟩
        go_wp2_with fail
        go_ret
        exact HP.out
end
end Go.Proofs.YtleheaffipokfaaDoor
