/-
  What may be handed in: the program's check.
-/
import Derived.Test.YthfljimgpcignaaGreatDoorG10
import Derived.Test.YthfljimgpcignaaGreatDoorG11
namespace Go.Proofs.YthfljimgpcignaaGreatDoor
open Go.RowKit

/-- What may be handed in, but for a vertex in both sets. -/
structure OkA (n : Int) (l : List (Int × Int)) (src dst : List Int) : Prop where
  n0 : 0 ≤ n
  e : ∀ x, x ∈ l → (0 ≤ x.1 ∧ x.1 < n) ∧ (0 ≤ x.2 ∧ x.2 < n)
  s : ∀ x, x ∈ src → 0 ≤ x ∧ x < n
  d : ∀ x, x ∈ dst → 0 ≤ x ∧ x < n
/-- A vertex is in both. -/
def Twice (src dst : List Int) : Prop := ∃ x, x ∈ src ∧ x ∈ dst
/-- What tells an error. -/
def FaultAt (w : World) (g : Nat) (p : ByteArray) (n e : Int) : Prop := Blk w g #[.string p, .int .i64 n, .iface 59 (.int .i64 e)] 64
def ErrPost (w : World) (p : ByteArray) (n c : Int) (e : Ending) (w' : World) : Prop := ∃ g, e = .returned (.iface 60 (pt g)) ∧ FaultAt w' g p n c ∧ Below w.heap.size w w'
/-- No error just where Q holds. -/
def NilPost (w : World) (Q : Prop) (e : Ending) (w' : World) : Prop := Below w.heap.size w w' ∧ ((Q ∧ e = .returned .nilIface) ∨ (¬ Q ∧ ∃ g, e = .returned (.iface 60 (pt g))))
theorem among_is (i n : Int) (b : Bool) (w : World) (h : decide (0 ≤ i ∧ i < n) = b) : Calls Tryz.prog 61 #[.int .i64 i, .int .i64 n] w fun e w' => e = .returned (.bool b) ∧ w = w' := by
  by_cases h0 : 0 ≤ i
  · by_cases h1 : i < n
    · obtain rfl : b = true := by rw [← h]; simp; omega
      clear h
      go_enter Tryz.func61, Tryz.ntmps61
      go_wp2
      go_ret
      exact ⟨rfl, rfl⟩
    · obtain rfl : b = false := by rw [← h]; simp; omega
      have d1 : decide (i < n) = false := by simpa using h1
      clear h
      go_enter Tryz.func61, Tryz.ntmps61
      go_wp2
      go_ret
      exact ⟨rfl, rfl⟩
  · obtain rfl : b = false := by rw [← h]; simp; omega
    have d1 : decide (0 ≤ i) = false := by simpa using h0
    clear h
    go_enter Tryz.func61, Tryz.ntmps61
    go_wp2
    go_ret
    exact ⟨rfl, rfl⟩
theorem fault_is (p : ByteArray) (n c : Int) (w : World) :
    Calls Tryz.prog 62 #[.string p, .int .i64 n, .iface 59 (.int .i64 c)] w (ErrPost w p n c) := by
  go_enter Tryz.func62, Tryz.ntmps62
  go_wp2
  go_ret
  exact ⟨_, rfl, Blk.new _ _ _ _ rfl, below_alloc1 _⟩
theorem counts_is (n : Int) (m : Nat) (w : World) (hn : n ≤ 4096) (hm : m ≤ 16384) :
    Calls Tryz.prog 60 #[.int .i64 n, .int .i64 m] w (NilPost w (0 ≤ n)) := by
  by_cases h0 : n < 0
  · go_enter Tryz.func60, Tryz.ntmps60
    go_wp2_with fail
    refine (fault_is _ _ _ _).mono ?_
    rintro e w' ⟨g, rfl, -, hb⟩
    have HB := Lib.hid hb
    clear hb
    go_wp2_with fail
    go_ret
    exact ⟨HB.out, Or.inr ⟨by omega, _, rfl⟩⟩
  · have d0 : decide (n < 0) = false := by simpa using h0
    have hmi : (m : Int) ≤ 16384 := by omega
    have HN0 : Hid (0 ≤ n) := Lib.hid (by omega)
    go_enter Tryz.func60, Tryz.ntmps60
    go_wp2_with fail
    go_ret
    exact ⟨Below.refl _ _, Or.inl ⟨by first | exact HN0.out | trivial, rfl⟩⟩
set_option maxHeartbeats 2000000 in
set_option maxRecDepth 100000 in
theorem checkSet_is {w : World} {v : Value} {l : List Int} (p : ByteArray) (n : Int) (h : I64s w v l) (hl : l.length ≤ 1000000) :
    Calls Tryz.prog 63 #[.string p, .int .i64 n, v] w (NilPost w (∀ x, x ∈ l → 0 ≤ x ∧ x < n)) := by
  obtain ⟨q, c, rfl⟩ := h.shape
  have HV := Lib.hid h
  clear h
  go_enter Tryz.func63, Tryz.ntmps63
  go_wp2_with fail
  go_loopw [7, 8, 11] (fun _ _ iv wr => ∃ k : Nat, k ≤ l.length ∧ iv = .int .i64 k ∧ Hid (∀ x, x ∈ l.take k → 0 ≤ x ∧ x < n) ∧ wr = w) (fun _ _ iv _ => l.length - (intOf iv).toNat)
  case atStart => exact ⟨0, Nat.zero_le _, rfl, Lib.hid (by simp), rfl⟩
  case round =>
    obtain ⟨k, hk, rfl, HK, rfl⟩ := hrel
    by_cases hlt : k < l.length
    · have hki : (k : Int) < (l.length : Int) := by omega
      obtain ⟨eb, eo, rfl, ec⟩ := HV.out.at hlt
      obtain ⟨x, hx⟩ : ∃ x, l[k] = x := ⟨_, rfl⟩
      rw [hx] at ec
      have HX := Lib.hid hx
      have hel := World.block_lt_of_cell? wr _ ec
      clear hx
      by_cases hin : 0 ≤ x ∧ x < n
      · have hd : decide (0 ≤ x ∧ x < n) = true := by simpa using hin
        have HN : Hid (∀ y, y ∈ l.take (k + 1) → 0 ≤ y ∧ y < n) := Lib.hid fun y hy => by
          rw [List.take_succ_eq_append_getElem hlt, HX.out] at hy
          rcases List.mem_append.1 hy with hy | hy
          · exact HK.out y hy
          · simp at hy
            exact hy ▸ hin
        have HD := Lib.hid hd
        clear hin hd
        go_wp2_with fail
        refine (among_is x n true _ HD.out).mono ?_
        rintro e w' ⟨rfl, rfl⟩
        go_wp2_with fail
        go_roundw
        case rel => exact ⟨k + 1, hlt, by go_num, HN, (by first | rfl | trivial)⟩
        case measure => simp [intOf]; omega
      · have HD : Hid (decide (0 ≤ x ∧ x < n) = false) := Lib.hid (by simpa using hin)
        have HNO : Hid (¬ ∀ x, x ∈ l → 0 ≤ x ∧ x < n) := Lib.hid fun h => hin (h x (by rw [← HX.out]; exact List.getElem_mem hlt))
        clear hin
        go_wp2_with fail
        refine (among_is x n false _ HD.out).mono ?_
        rintro e w' ⟨rfl, rfl⟩
        go_wp2_with fail
        refine (fault_is _ _ _ _).mono ?_
        rintro e w' ⟨g, rfl, -, hb⟩
        have HB := Lib.hid hb
        clear hb
        go_wp2_with fail
        go_ret
        exact ⟨HB.out, Or.inr ⟨HNO.out, _, rfl⟩⟩
    · obtain rfl : k = l.length := by omega
      have HA : Hid (∀ x, x ∈ l → 0 ≤ x ∧ x < n) := Lib.hid (by have := HK.out; rwa [List.take_length] at this)
      go_wp2_with fail
      go_ret
      exact ⟨Below.refl _ _, Or.inl ⟨HA.out, rfl⟩⟩
end Go.Proofs.YthfljimgpcignaaGreatDoor

/-
  Is one of a row of vertices marked: ContainsFunc with the program's closures.
-/
namespace Go.Proofs.YthfljimgpcignaaGreatDoor
open Go.RowKit

def IndexPost (w : World) (M : List Bool) (S : List Nat) (e : Ending) (w' : World) : Prop := ∃ i, e = .returned (.int .i64 i) ∧ ((∃ k : Nat, i = k ∧ ∃ x, x ∈ S ∧ setB M x = true) ∨ (i = -1 ∧ ∀ x, x ∈ S → setB M x = false)) ∧ w = w'
def ContPost (w : World) (M : List Bool) (S : List Nat) (e : Ending) (w' : World) : Prop := ∃ b, e = .returned (.bool b) ∧ (b = true ↔ ∃ x, x ∈ S ∧ setB M x = true) ∧ w = w'
set_option maxHeartbeats 2000000 in
set_option maxRecDepth 100000 in
theorem cloC_is {w : World} {gb x : Nat} {v : Value} {M : List Bool} (hg : w.cell? ⟨gb, 0, none⟩ = some v) (hm : Bools w v M) (hx : x < M.length) :
    Calls Tryz.prog 66 #[.int .i64 x, pt gb] w fun e w' => e = .returned (.bool (setB M x)) ∧ w = w' := by
  obtain ⟨q, c, rfl⟩ := hm.shape
  obtain ⟨b, o, rfl, hc⟩ := hm.at hx
  rw [← setB_at hx] at hc
  have hgl := World.block_lt_of_cell? w _ hg
  have hcl := World.block_lt_of_cell? w _ hc
  have hxi : (x : Int) < (M.length : Int) := by omega
  clear hm
  generalize setB M x = B at hc
  go_enter Tryz.func66, Tryz.ntmps66
  go_wp2_with fail
  go_ret
  exact ⟨rfl, rfl⟩
set_option maxHeartbeats 2000000 in
set_option maxRecDepth 100000 in
theorem indexC_is {w : World} {gb : Nat} {v u : Value} {M : List Bool} {S : List Nat} (hg : w.cell? ⟨gb, 0, none⟩ = some v) (hm : Bools w v M) (hs : I64s w u (zN S)) (hS : ∀ x, x ∈ S → x < M.length) (hl : S.length ≤ 1000000) :
    Calls Tryz.prog 79 #[u, .func (.func 66) #[] #[pt gb]] w (IndexPost w M S) := by
  obtain ⟨q, c, rfl⟩ := hs.shape
  have HZ := Lib.hid (zN_len S)
  have HV := Lib.hid hs
  have HG := Lib.hid hg
  have HM := Lib.hid hm
  have HS := Lib.hid hS
  rw [zN_len] at HV
  rw [zN_len]
  clear hs hg hm hS
  go_enter Tryz.func79, Tryz.ntmps79
  go_wp2_with fail
  go_loopw [5, 8] (fun _ iv wr => ∃ k : Nat, k ≤ S.length ∧ iv = .int .i64 k ∧ Hid (∀ x, x ∈ S.take k → setB M x = false) ∧ wr = w) (fun _ iv _ => S.length - (intOf iv).toNat)
  case atStart => exact ⟨0, Nat.zero_le _, rfl, Lib.hid (by simp), rfl⟩
  case round =>
    obtain ⟨k, hk, rfl, HK, rfl⟩ := hrel
    by_cases hlt : k < S.length
    · have hki : (k : Int) < (S.length : Int) := by omega
      obtain ⟨eb, eo, rfl, ec⟩ := HV.out.at (k := k) (by rw [HZ.out]; exact hlt)
      obtain ⟨x, hx⟩ : ∃ x, S[k] = x := ⟨_, rfl⟩
      rw [show (zN S)[k]'(by rw [HZ.out]; exact hlt) = (x : Int) from by simp [zN, hx]] at ec
      have HX := Lib.hid hx
      have hel := World.block_lt_of_cell? wr _ ec
      have HXN : Hid (x < M.length) := Lib.hid (HS.out x (by rw [← hx]; exact List.getElem_mem hlt))
      clear hx
      go_wp2_with fail
      refine (cloC_is HG.out HM.out HXN.out).mono ?_
      rintro e w' ⟨rfl, rfl⟩
      cases hI : setB M x with
      | true =>
        have HP : Hid (IndexPost wr M S (.returned (.int .i64 k)) wr) := Lib.hid ⟨_, rfl, Or.inl ⟨k, rfl, x, by rw [← HX.out]; exact List.getElem_mem hlt, hI⟩, rfl⟩
        clear hI
        go_wp2_with fail
        go_ret
        exact HP.out
      | false =>
        have HN : Hid (∀ y, y ∈ S.take (k + 1) → setB M y = false) := Lib.hid fun y hy => by
          rw [List.take_succ_eq_append_getElem hlt, HX.out] at hy
          rcases List.mem_append.1 hy with hy | hy
          · exact HK.out y hy
          · simp at hy
            exact hy ▸ hI
        clear hI
        go_wp2_with fail
        go_roundw
        case rel => exact ⟨k + 1, hlt, by go_num, HN, (by first | rfl | trivial)⟩
        case measure => simp [intOf]; omega
    · obtain rfl : k = S.length := by omega
      have HP : Hid (IndexPost wr M S (.returned (.int .i64 (-1))) wr) := Lib.hid ⟨_, rfl, Or.inr ⟨rfl, fun x hx => HK.out x (by rw [List.take_length]; exact hx)⟩, rfl⟩
      go_wp2_with fail
      go_ret
      exact HP.out
set_option maxHeartbeats 2000000 in
set_option maxRecDepth 100000 in
/-- Is one of them marked? -/
theorem containsC_is {w : World} {gb : Nat} {v u : Value} {M : List Bool} {S : List Nat} (hg : w.cell? ⟨gb, 0, none⟩ = some v) (hm : Bools w v M) (hs : I64s w u (zN S)) (hS : ∀ x, x ∈ S → x < M.length) (hl : S.length ≤ 1000000) :
    Calls Tryz.prog 65 #[u, .func (.func 66) #[] #[pt gb]] w (ContPost w M S) := by
  have HC := Lib.hid (indexC_is hg hm hs hS hl)
  clear hg hm hs hS
  go_enter Tryz.func65, Tryz.ntmps65
  go_wp2_with fail
  refine HC.out.mono ?_
  rintro e w' ⟨i, rfl, h | h, rfl⟩
  · obtain ⟨k, rfl, x, hx, hM⟩ := h
    have HP : Hid (ContPost w M S (.returned (.bool true)) w) := Lib.hid ⟨true, rfl, ⟨fun _ => ⟨x, hx, hM⟩, fun _ => rfl⟩, rfl⟩
    have hd : decide (0 ≤ (k : Int)) = true := by simp
    clear hx hM
    go_wp2_with fail
    go_ret
    exact HP.out
  · obtain ⟨rfl, hM⟩ := h
    have HP : Hid (ContPost w M S (.returned (.bool false)) w) := Lib.hid ⟨false, rfl, ⟨fun h => (by cases h), fun ⟨x, hx, hm⟩ => by rw [hM x hx] at hm; cases hm⟩, rfl⟩
    clear hM
    go_wp2_with fail
    go_ret
    exact HP.out
end Go.Proofs.YthfljimgpcignaaGreatDoor

/-
  What may be handed in: the program's check; are two rows of marks the same.
-/
namespace Go.Proofs.YthfljimgpcignaaGreatDoor
open Go.RowKit

/-- What is handed in and may be, as numbers from 0 on. -/
theorem OkA.edges {n : Int} {l : List (Int × Int)} {src dst : List Int} (h : OkA n l src dst) : ∃ (N : Nat) (E : Edg) (S D : List Nat), n = N ∧ l = zE E ∧ EdgIn N E ∧ src = zN S ∧ dst = zN D ∧ (∀ x, x ∈ S → x < N) ∧ ∀ x, x ∈ D → x < N := by
  obtain ⟨N, hN⟩ : ∃ N : Nat, n = N := ⟨n.toNat, by have := h.n0; omega⟩
  have row : ∀ r : List Int, (∀ x, x ∈ r → 0 ≤ x ∧ x < n) → r = zN (r.map Int.toNat) ∧ ∀ x, x ∈ r.map Int.toNat → x < N := fun r hr => by
    constructor
    · unfold zN
      rw [List.map_map]
      conv => lhs; rw [← List.map_id r]
      refine List.map_congr_left fun x hx => ?_
      have := hr x hx
      simp
      omega
    · intro x hx
      obtain ⟨y, hy, rfl⟩ := List.mem_map.1 hx
      have := hr y hy
      omega
  refine ⟨N, l.map fun e => (e.1.toNat, e.2.toNat), src.map Int.toNat, dst.map Int.toNat, hN, ?_, ?_, (row src h.s).1, (row dst h.d).1, (row src h.s).2, (row dst h.d).2⟩
  · unfold zE
    rw [List.map_map]
    conv => lhs; rw [← List.map_id l]
    refine List.map_congr_left fun x hx => ?_
    have := h.e x hx
    refine Prod.ext ?_ ?_
    · simp; omega
    · simp; omega
  · intro i hi
    rw [List.length_map] at hi
    have := h.e l[i] (List.getElem_mem hi)
    unfold eL
    rw [List.getD_eq_getElem?_getD, List.getElem?_map, List.getElem?_eq_getElem hi]
    simp
    omega
def zPair (N : Int) (x : Int × Int) : Prop := (0 ≤ x.1 ∧ x.1 < N) ∧ (0 ≤ x.2 ∧ x.2 < N)
/-- What check answers. -/
def ChkPost (w : World) (n : Int) (l : List (Int × Int)) (src dst : List Int) (e : Ending) (w' : World) : Prop :=
  Below w.heap.size w w' ∧ ((OkA n l src dst ∧ ¬ Twice src dst ∧ e = .returned .nilIface) ∨ (OkA n l src dst ∧ Twice src dst ∧ ∃ g, e = .returned (.iface 60 (pt g)) ∧ FaultAt w' g ⟨#[102, 108, 111, 119]⟩ 2 6) ∨ (¬ OkA n l src dst ∧ ∃ g, e = .returned (.iface 60 (pt g))))
theorem zN_mem {S : List Nat} {x : Int} : x ∈ zN S ↔ ∃ v : Nat, v ∈ S ∧ x = v := by
  unfold zN
  rw [List.mem_map]
  exact ⟨fun ⟨v, h, e⟩ => ⟨v, h, e.symm⟩, fun ⟨v, h, e⟩ => ⟨v, h, e.symm⟩⟩
theorem twice_marks {N : Nat} {S D : List Nat} (hD : ∀ x, x ∈ D → x < N) : (∃ x, x ∈ D ∧ setB (markL N S) x = true) ↔ Twice (zN S) (zN D) := by
  constructor
  · rintro ⟨x, hx, hm⟩
    rw [markL_in (hD x hx)] at hm
    exact ⟨x, zN_mem.2 ⟨x, by simpa using hm, rfl⟩, zN_mem.2 ⟨x, hx, rfl⟩⟩
  · rintro ⟨x, h1, h2⟩
    obtain ⟨v, hv, rfl⟩ := zN_mem.1 h1
    obtain ⟨u, hu, e⟩ := zN_mem.1 h2
    obtain rfl : v = u := by omega
    exact ⟨v, hu, by rw [markL_in (hD v hu)]; simpa using hv⟩

section
variable {w : World} {n : Int} {l : List (Int × Int)} {src dst : List Int} {ev sv dv : Value}
set_option maxHeartbeats 4000000 in
set_option maxRecDepth 100000 in
theorem check_is (he : Prs w ev l) (hs : I64s w sv src) (hd : I64s w dv dst) (hn : n ≤ 4096) (hl : l.length ≤ 16384) (hsl : src.length ≤ 1000000) (hdl : dst.length ≤ 1000000) :
    Calls Tryz.prog 51 #[.int .i64 n, ev, sv, dv] w (ChkPost w n l src dst) := by
  obtain ⟨q, c, rfl⟩ := he.shape
  have HE := Lib.hid he
  have HS := Lib.hid hs
  have HD := Lib.hid hd
  have HL := Lib.hid hl
  clear he hs hd
  go_enter Tryz.func51, Tryz.ntmps51
  go_wp2_with fail
  refine (counts_is n l.length _ hn HL.out).mono ?_
  rintro e w1 ⟨hb1, ⟨h0, rfl⟩ | ⟨h0, g, rfl⟩⟩
  case inr =>
    have HP : Hid (ChkPost w n l src dst (.returned (.iface 60 (pt g))) w1) := Lib.hid ⟨hb1, Or.inr (Or.inr ⟨fun h => h0 h.n0, g, rfl⟩)⟩
    clear hb1 h0
    go_wp2_with fail
    go_ret
    exact HP.out
  have HB1 := Lib.hid hb1
  have H0 := Lib.hid h0
  clear hb1 h0
  go_wp2_with fail
  go_loopw [10, 11, 24] (fun _ _ iv wr => ∃ k : Nat, k ≤ l.length ∧ iv = .int .i64 k ∧ Hid (∀ x, x ∈ l.take k → zPair n x) ∧ Hid (Below w.heap.size w wr)) (fun _ _ iv _ => l.length - (intOf iv).toNat)
  case atStart => exact ⟨0, Nat.zero_le _, rfl, Lib.hid (by simp), HB1⟩
  case round =>
    obtain ⟨k, hk, rfl, HK, HB⟩ := hrel
    by_cases hlt : k < l.length
    · have hki : (k : Int) < (l.length : Int) := by omega
      obtain ⟨eb, eo, rfl, e0, e1⟩ := (HE.out.below HB.out).at hlt
      obtain ⟨⟨a, b⟩, hx⟩ : ∃ x, l[k] = x := ⟨_, rfl⟩
      rw [hx] at e0 e1
      simp only at e0 e1
      have HX := Lib.hid hx
      have hel := World.block_lt_of_cell? wr _ e0
      obtain ⟨W3, hW3⟩ := named (wr.alloc (.cells #[.int .i64 a, .int .i64 b] 44))
      have hb3 : Below wr.heap.size wr W3 := by rw [hW3]; exact below_alloc1 _
      obtain ⟨gg, hgg⟩ : ∃ gg, wr.heap.size = gg := ⟨_, rfl⟩
      have kg : Blk W3 gg #[.int .i64 a, .int .i64 b] 44 := by rw [hW3]; exact Blk.new _ _ _ _ hgg
      obtain ⟨d0, d1, -⟩ := kg.o2
      have hgl := kg.lt
      have HB3 := Lib.hid (bOn6 HB.out hb3)
      have e3 := hW3.symm
      clear hx hW3 hb3 kg HB
      by_cases ha : 0 ≤ a ∧ a < n
      · have HA : Hid (decide (0 ≤ a ∧ a < n) = true) := Lib.hid (by simpa using ha)
        by_cases hbn : 0 ≤ b ∧ b < n
        · have HBN : Hid (decide (0 ≤ b ∧ b < n) = true) := Lib.hid (by simpa using hbn)
          have HN : Hid (∀ y, y ∈ l.take (k + 1) → zPair n y) := Lib.hid fun y hy => by
            rw [List.take_succ_eq_append_getElem hlt, HX.out] at hy
            rcases List.mem_append.1 hy with hy | hy
            · exact HK.out y hy
            · simp at hy
              subst hy
              exact ⟨ha, hbn⟩
          clear ha hbn
          go_wp2_with fail
          refine (among_is a n true _ HA.out).mono ?_
          rintro e w' ⟨rfl, rfl⟩
          go_wp2_with fail
          refine (among_is b n true _ HBN.out).mono ?_
          rintro e w' ⟨rfl, rfl⟩
          go_wp2_with fail
          go_roundw
          case rel => exact ⟨k + 1, hlt, by go_num, HN, HB3⟩
          case measure => simp [intOf]; omega
        · have HBN : Hid (decide (0 ≤ b ∧ b < n) = false) := Lib.hid (by simpa using hbn)
          have HNO : Hid (¬ OkA n l src dst) := Lib.hid fun h => hbn (by have := (h.e l[k] (List.getElem_mem hlt)).2; rw [HX.out] at this; exact this)
          clear ha hbn
          go_wp2_with fail
          refine (among_is a n true _ HA.out).mono ?_
          rintro e w' ⟨rfl, rfl⟩
          go_wp2_with fail
          refine (among_is b n false _ HBN.out).mono ?_
          rintro e w' ⟨rfl, rfl⟩
          go_wp2_with fail
          refine (fault_is _ _ _ _).mono ?_
          rintro e w' ⟨g, rfl, -, hb⟩
          have HP : Hid (ChkPost w n l src dst (.returned (.iface 60 (pt g))) w') := Lib.hid ⟨bOn6 HB3.out hb, Or.inr (Or.inr ⟨HNO.out, g, rfl⟩)⟩
          clear hb
          go_wp2_with fail
          go_ret
          exact HP.out
      · have HA : Hid (decide (0 ≤ a ∧ a < n) = false) := Lib.hid (by simpa using ha)
        have HNO : Hid (¬ OkA n l src dst) := Lib.hid fun h => ha (by have := (h.e l[k] (List.getElem_mem hlt)).1; rw [HX.out] at this; exact this)
        clear ha
        go_wp2_with fail
        refine (among_is a n false _ HA.out).mono ?_
        rintro e w' ⟨rfl, rfl⟩
        go_wp2_with fail
        refine (fault_is _ _ _ _).mono ?_
        rintro e w' ⟨g, rfl, -, hb⟩
        have HP : Hid (ChkPost w n l src dst (.returned (.iface 60 (pt g))) w') := Lib.hid ⟨bOn6 HB3.out hb, Or.inr (Or.inr ⟨HNO.out, g, rfl⟩)⟩
        clear hb
        go_wp2_with fail
        go_ret
        exact HP.out
    · obtain rfl : k = l.length := by omega
      have HLA : Hid (∀ x, x ∈ l → zPair n x) := Lib.hid (by have := HK.out; rwa [List.take_length] at this)
      clear HK HB1
      go_wp2_with fail
      refine (checkSet_is _ n (HS.out.below HB.out) hsl).mono ?_
      rintro e w2 ⟨hb2, ⟨hs, rfl⟩ | ⟨hs, g, rfl⟩⟩
      case inr =>
        have HP : Hid (ChkPost w n l src dst (.returned (.iface 60 (pt g))) w2) := Lib.hid ⟨bOn6 HB.out hb2, Or.inr (Or.inr ⟨fun h => hs h.s, g, rfl⟩)⟩
        clear hb2 hs
        go_wp2_with fail
        go_ret
        exact HP.out
      have HB2 := Lib.hid (bOn6 HB.out hb2)
      have HSN := Lib.hid hs
      clear hb2 hs HB
      go_wp2_with fail
      refine (checkSet_is _ n (HD.out.below HB2.out) hdl).mono ?_
      rintro e w3 ⟨hb3, ⟨hd, rfl⟩ | ⟨hd, g, rfl⟩⟩
      case inr =>
        have HP : Hid (ChkPost w n l src dst (.returned (.iface 60 (pt g))) w3) := Lib.hid ⟨bOn6 HB2.out hb3, Or.inr (Or.inr ⟨fun h => hd h.d, g, rfl⟩)⟩
        clear hb3 hd
        go_wp2_with fail
        go_ret
        exact HP.out
      have HB3 := Lib.hid (bOn6 HB2.out hb3)
      have HOK : Hid (OkA n l src dst) := Lib.hid ⟨H0.out, HLA.out, HSN.out, hd⟩
      obtain ⟨N, E, S, D, hN, -, -, hS, hD, hSN, hDN⟩ := HOK.out.edges
      subst hN hS hD
      rw [zN_len] at hsl hdl
      have HSN2 := Lib.hid hSN
      have HDN2 := Lib.hid hDN
      have HDV := Lib.hid (HD.out.below HB3.out)
      have HSV := Lib.hid (HS.out.below HB3.out)
      have HSL := Lib.hid hsl
      have HDL := Lib.hid hdl
      clear hb3 hd HB2 hSN hDN hsl hdl
      go_wp2_with fail
      refine (marks_is HSV.out HSN2.out (by omega) HSL.out).mono ?_
      rintro e w4 ⟨rfl, hk4, hb4⟩
      obtain ⟨mb, hmb⟩ : ∃ mb, w3.heap.size = mb := ⟨_, rfl⟩
      rw [hmb] at hk4
      rw [hmb]
      have HB4 := Lib.hid (bOn6 HB3.out hb4)
      have HK4 := Lib.hid hk4
      have HDV4 := Lib.hid (HDV.out.below hb4)
      clear hk4 hb4 hmb HB3 HDV HSV
      go_wp2_with fail
      obtain ⟨W5, hW5⟩ := named (w4.alloc (.cells #[.slice (some ⟨mb, 0, none⟩) N N] 23))
      rw [← hW5]
      have hb5 : Below w4.heap.size w4 W5 := by rw [hW5]; exact below_alloc1 _
      have kg : Blk W5 w4.heap.size #[.slice (some ⟨mb, 0, none⟩) N N] 23 := by rw [hW5]; exact Blk.new _ _ _ _ rfl
      have HB5 := Lib.hid (bOn6 HB4.out hb5)
      refine (containsC_is (kg.o1).1 (bools_of_blk (HK4.out.keep hb5) markL_len (by omega)) (HDV4.out.below hb5) (by rw [markL_len]; exact HDN2.out) HDL.out).mono ?_
      rintro e w6 ⟨b, rfl, hbb, rfl⟩
      rw [twice_marks HDN2.out] at hbb
      have HBT : Hid (b = true → Twice (zN S) (zN D)) := Lib.hid hbb.1
      have HBF : Hid (b = false → ¬ Twice (zN S) (zN D)) := Lib.hid fun e h => by rw [hbb.2 h] at e; cases e
      clear hW5 hb5 kg hbb HB4 HK4 HDV4
      cases b with
      | true =>
        have HBT2 : Hid (Twice (zN S) (zN D)) := Lib.hid (HBT.out rfl)
        clear HBT HBF
        go_wp2_with fail
        refine (fault_is _ _ _ _).mono ?_
        rintro e w' ⟨g, rfl, hf, hb⟩
        have HP : Hid (ChkPost w N l (zN S) (zN D) (.returned (.iface 60 (pt g))) w') := Lib.hid ⟨bOn6 HB5.out hb, Or.inr (Or.inl ⟨HOK.out, HBT2.out, g, rfl, hf⟩)⟩
        clear hb hf
        go_wp2_with fail
        go_ret
        exact HP.out
      | false =>
        have HP : Hid (ChkPost w N l (zN S) (zN D) (.returned .nilIface) W5) := Lib.hid ⟨HB5.out, Or.inl ⟨HOK.out, HBF.out rfl, rfl⟩⟩
        go_wp2_with fail
        go_ret
        exact HP.out
end
end Go.Proofs.YthfljimgpcignaaGreatDoor

/-
  What can be reached, from where what can be: the program's sides.
-/
namespace Go.Proofs.YthfljimgpcignaaGreatDoor
open Go.RowKit

/-- A row of marks that grows, beside a row of numbers. -/
structure SideM (w : World) (ob B : Nat) (off : List Int) (l : List Bool) (v : Value) (wr : World) : Prop where
  o : Blk wr ob (numI off) 3
  r : wr.ownsRow B 4 1 v l.length (l.map Value.bool)
  b : Below w.heap.size w wr
  lo : w.heap.size ≤ B
  ob : ob < B
  sz : B ≤ wr.heap.size
section
variable {w wr wr' : World} {ob B : Nat} {off : List Int} {l : List Bool} {v : Value}
theorem SideM.old (h : SideM w ob B off l v wr) (hb : Below wr.heap.size wr wr') : SideM w ob B off l v wr' :=
  ⟨h.o.keep hb, own_below h.r hb, bOn6 h.b hb, h.lo, h.ob, Nat.le_trans h.sz hb.size⟩
theorem SideM.app (h : SideM w ob B off l v wr) (x : Bool) {g : Nat} (hb : Below wr.heap.size wr wr') (hg : Blk wr' g #[.bool x] 4) (hl : l.length ≤ 100000) :
    ∃ q c w', (Builtin.append_ #[23, 23] 23 #[v, .slice (some ⟨g, 0, none⟩) 1 1]).run Tryz.prog wr' = .ok (.slice q (l.length + 1) c) w' ∧ SideM w ob B off (l ++ [x]) (.slice q (l.length + 1) c) w' := by
  have h' := h.old hb
  obtain ⟨q, c, w', hr, h1, h2⟩ := app1 (x := .bool x) Tryz.underlying23 infoBool rfl rfl (by decide) h'.r hg hl h'.sz
  refine ⟨q, c, w', hr, h'.o.grownO h2 (own_ne h'.r h'.ob), ?_, below_grownO h'.b h2 (fun g hg => by have := own_ge h'.r g hg; have := h.lo; omega), h.lo, h.ob, Nat.le_trans h'.sz h2.size⟩
  rw [List.length_append, List.map_append]
  exact h1
end
theorem map_take_snoc {p : Int → Bool} {l : List Int} {k : Nat} (h : k < l.length) : (l.take (k + 1)).map p = (l.take k).map p ++ [p (oL l k)] := by
  rw [List.take_add_one, List.getElem?_eq_getElem h, List.map_append, oL_at h]
  rfl
/-- The loop's head. -/
def SideRel (w : World) (ob B : Nat) (off : List Int) (p : Int → Bool) (v iv : Value) (wr : World) : Prop :=
  ∃ (k : Nat) (l : List Bool), k ≤ off.length ∧ iv = .int .i64 k ∧ Hid (l = (off.take k).map p) ∧ SideM w ob B off l v wr
theorem own_av0 {P : Nat → Prop} {w : World} {base : Nat} {e : TypeId} {size : Nat} {v : Value} {n : Nat} {xs : List Value} (h : w.ownsRow base e size v n xs) (hp : ∀ g, base ≤ g → P g) : Av P v := by
  rcases h.2 with ⟨rfl, e0⟩ | ⟨g, cap, cur, rfl, hg, _⟩
  · exact Av.nil _ _ _
  · exact Av.at (hp g hg)
/-- What sides answers. -/
def SidesPost (w : World) (N : Nat) (E : Edg) (f : List Int) (A B : VSet) (e : Ending) (w' : World) : Prop :=
  ∃ nv gv near far, e = .returned (.tuple #[nv, gv]) ∧ Bools w' nv near ∧ Bools w' gv far ∧ near.length = N ∧ far.length = N ∧ (∀ v, v < N → (setB near v = true ↔ Rch E f 1 A v)) ∧ (∀ v, v < N → (setB far v = false ↔ Rch E f (-1) B v)) ∧ Below w.heap.size w w' ∧ Av (fun b => w.heap.size ≤ b) nv ∧ Av (fun b => w.heap.size ≤ b) gv
theorem setB_map {l : List Int} {p : Int → Bool} {v : Nat} (h : v < l.length) : setB (l.map p) v = p (oL l v) := by
  rw [setB_at (by simpa using h), oL_at h]
  simp

section
variable {P : Nat → Prop} {w : World} {p N : Nat} {E : Edg} {A B : List Bool} {f : List Int} {ev sv dv fv : Value} {ab : Nat} {us : List Value}
set_option maxHeartbeats 4000000 in
set_option maxRecDepth 100000 in
theorem sides_is (h : WebS P w p N E A B ev sv dv fv ab us) (hf : I64s w fv f) (hfl : f.length = E.length) :
    Calls Tryz.prog 54 #[pt p] w (SidesPost w N E f (setB A) (setB B)) := by
  obtain ⟨x0, x1, x2, x3, x4, -, -, -, -, -⟩ := h.k.o5
  have hpl := h.k.lt
  have hnn := h.nn
  have HW := Lib.hid h
  have HF := Lib.hid hf
  have HFL := Lib.hid hfl
  clear h hf hfl
  go_enter Tryz.func54, Tryz.ntmps54
  go_wp2_with fail
  clear x0 x1 x2 x3 x4
  refine (steps_is HW.out HF.out HFL.out HW.out.s HW.out.al (Or.inl rfl)).mono ?_
  rintro e w1 ⟨ob, off, rfl, ho, hlo, hq, hb1⟩
  have HQ := Lib.hid hq
  have hlen := hq.len
  have HB1 := Lib.hid hb1
  have HM1 : Hid (SideM w ob w1.heap.size off [] (.slice none 0 0) w1) := Lib.hid ⟨ho, World.ownsRow_nil _ _ _ _, hb1, hb1.size, ho.lt, Nat.le_refl _⟩
  obtain ⟨B1, hB1⟩ : ∃ B1, w1.heap.size = B1 := ⟨_, rfl⟩
  rw [hB1] at HM1
  clear hq hb1 hlo ho hB1
  go_wp2_with fail
  go_loopw [2, 5, 15] (fun v _ iv wr => SideRel w ob B1 off (fun x => x != -1) v iv wr) (fun _ _ iv _ => N - (intOf iv).toNat)
  case atStart => exact ⟨0, [], Nat.zero_le _, rfl, Lib.hid rfl, HM1.out⟩
  case round =>
    obtain ⟨k, l, hk, rfl, HL, hs⟩ := hrel
    obtain ⟨q9, c9, rfl⟩ := own_shape hs.r
    have HLK : Hid (l.length = k) := Lib.hid (by rw [HL.out, List.length_map, List.length_take]; omega)
    by_cases hlt : k < off.length
    · have hki : (k : Int) < (N : Int) := by omega
      have hc := hs.o.cell k (numI_at hlt)
      have hol := hs.o.lt
      rw [← oL_at hlt] at hc
      obtain ⟨q2, c2, w5, hr5, hs5⟩ := hs.app (oL off k != -1) (below_alloc1 _) (Blk.new _ _ _ wr.heap.size rfl) (by have := HLK.out; omega)
      have HL2 : Hid (l ++ [oL off k != -1] = (off.take (k + 1)).map (fun x => x != -1)) := Lib.hid (by rw [map_take_snoc (p := fun x => x != -1) hlt, HL.out])
      have HR : Hid (SideRel w ob B1 off (fun x => x != -1) (.slice q2 (l.length + 1) c2) (.int .i64 ((k + 1 : Nat) : Int)) w5) := Lib.hid ⟨k + 1, _, hlt, rfl, HL2, hs5⟩
      have HR5 := Lib.hid hr5
      clear hs hs5 hr5 HM1 HL2 HL
      go_wp2_with (at_builtin; refine wpList_append_run (by rfl) _ _ _ rfl _ _ _ rfl rfl HR5.out ?_)
      go_roundw
      case rel => exact HR.out
      case measure => simp [intOf]; omega
    · obtain rfl : k = N := by omega
      have HN1 : Hid (Bools wr (.slice q9 l.length c9) l) := Lib.hid (bools_of_owns hs.r (by have := HLK.out; omega))
      have HAV1 : Hid (Av (fun b => w.heap.size ≤ b) (.slice q9 l.length c9)) := Lib.hid (own_av0 hs.r (fun g hg => Nat.le_trans hs.lo hg))
      have HLL : Hid (l.length = k ∧ l = off.map (fun x => x != -1)) := Lib.hid ⟨HLK.out, by rw [HL.out, ← hlen, List.take_length]⟩
      have HB2 := Lib.hid hs.b
      obtain ⟨x0, x1, x2, x3, x4, -, -, -, -, -⟩ := (HW.out.old hs.b).k.o5
      have hpl := (HW.out.old hs.b).k.lt
      have hdk : decide (k < k) = false := by simp
      clear HM1 hs HL hlt HLK hk
      go_wp2_with fail
      clear x0 x1 x2 x3 x4
      refine (steps_is (HW.out.old HB2.out) (HF.out.below HB2.out) HFL.out (HW.out.old HB2.out).d HW.out.bl (Or.inr rfl)).mono ?_
      rintro e w2 ⟨ob2, off2, rfl, ho, hlo, hq, hb1⟩
      have HQ2 := Lib.hid hq
      have hlen2 := hq.len
      have HN2 := Lib.hid (HN1.out.below hb1)
      have HB3 := Lib.hid (bOn6 HB2.out hb1)
      have HM2 : Hid (SideM w2 ob2 w2.heap.size off2 [] (.slice none 0 0) w2) := Lib.hid ⟨ho, World.ownsRow_nil _ _ _ _, Below.refl _ _, Nat.le_refl _, ho.lt, Nat.le_refl _⟩
      clear hq hb1 hlo ho HN1 HB2
      go_wp2_with fail
      go_loopw [3, 7, 32] (fun v _ iv wr => SideRel w2 ob2 w2.heap.size off2 (fun x => x == -1) v iv wr) (fun _ _ iv _ => k - (intOf iv).toNat)
      case atStart => exact ⟨0, [], Nat.zero_le _, rfl, Lib.hid rfl, HM2.out⟩
      case round =>
        obtain ⟨j, l2, hj, rfl, HL, hs⟩ := hrel
        obtain ⟨q8, c8, rfl⟩ := own_shape hs.r
        have HLK : Hid (l2.length = j) := Lib.hid (by rw [HL.out, List.length_map, List.length_take]; omega)
        by_cases hlt : j < off2.length
        · have hki : (j : Int) < (k : Int) := by omega
          have hc := hs.o.cell j (numI_at hlt)
          have hol := hs.o.lt
          rw [← oL_at hlt] at hc
          obtain ⟨q2, c2, w5, hr5, hs5⟩ := hs.app (oL off2 j == -1) (below_alloc1 _) (Blk.new _ _ _ wr.heap.size rfl) (by have := HLK.out; omega)
          have HL2 : Hid (l2 ++ [oL off2 j == -1] = (off2.take (j + 1)).map (fun x => x == -1)) := Lib.hid (by rw [map_take_snoc (p := fun x => x == -1) hlt, HL.out])
          have HR : Hid (SideRel w2 ob2 w2.heap.size off2 (fun x => x == -1) (.slice q2 (l2.length + 1) c2) (.int .i64 ((j + 1 : Nat) : Int)) w5) := Lib.hid ⟨j + 1, _, hlt, rfl, HL2, hs5⟩
          have HR5 := Lib.hid hr5
          clear hs hs5 hr5 HM2 HL2 HL
          go_wp2_with (at_builtin; refine wpList_append_run (by rfl) _ _ _ rfl _ _ _ rfl rfl HR5.out ?_)
          go_roundw
          case rel => exact HR.out
          case measure => simp [intOf]; omega
        · obtain rfl : j = k := by omega
          have hn : off.length = j := hlen
          have HP : Hid (SidesPost w j E f (setB A) (setB B) (.returned (.tuple #[.slice q9 l.length c9, .slice q8 l2.length c8])) wr) := Lib.hid ⟨_, _, l, l2, rfl, HN2.out.below hs.b, bools_of_owns hs.r (by have := HLK.out; omega), HLL.out.1, HLK.out, fun v hv => by
            rw [HLL.out.2, setB_map (by omega)]
            rw [← HQ.out.rch v hv]
            simp, fun v hv => by
            rw [HL.out, ← hlen2, List.take_length, setB_map (by omega), ← HQ2.out.rch v hv]
            simp, bOn6 HB3.out hs.b, HAV1.out, own_av0 hs.r (fun g hg => Nat.le_trans (Nat.le_trans HB3.out.size hs.lo) hg)⟩
          have hdk : decide (j < j) = false := by simp
          clear HM2 hs HL hlt HLK hj hn
          go_wp2_with fail
          go_ret2
          exact HP.out
end
end Go.Proofs.YthfljimgpcignaaGreatDoor
