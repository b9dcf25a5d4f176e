/-
  Is one of a row of vertices marked: ContainsFunc with the program's closures.
-/
import Derived.Test.YtleheaffipokfaaDoorFlC
namespace Go.Proofs.YtleheaffipokfaaDoor
open Go.RowKit

def IndexPost (w : World) (M : List Bool) (S : List Nat) (e : Ending) (w' : World) : Prop := ∃ i, e = .returned (.int .i64 i) ∧ ((∃ k : Nat, i = k ∧ ∃ x, x ∈ S ∧ setB M x = true) ∨ (i = -1 ∧ ∀ x, x ∈ S → setB M x = false)) ∧ w = w'
def ContPost (w : World) (M : List Bool) (S : List Nat) (e : Ending) (w' : World) : Prop := ∃ b, e = .returned (.bool b) ∧ (b = true ↔ ∃ x, x ∈ S ∧ setB M x = true) ∧ w = w'
set_option maxHeartbeats 2000000 in
set_option maxRecDepth 100000 in
theorem cloC_is {w : World} {gb x : Nat} {v : Value} {M : List Bool} (hg : w.cell? ⟨gb, 0, none⟩ = some v) (hm : Bools w v M) (hx : x < M.length) :
    Calls Tryd.prog 31 #[.int .i64 x, pt gb] w fun e w' => e = .returned (.bool (setB M x)) ∧ w = w' := by
  obtain ⟨q, c, rfl⟩ := hm.shape
  obtain ⟨b, o, rfl, hc⟩ := hm.at hx
  rw [← setB_at hx] at hc
  have hgl := World.block_lt_of_cell? w _ hg
  have hcl := World.block_lt_of_cell? w _ hc
  have hxi : (x : Int) < (M.length : Int) := by omega
  clear hm
  generalize setB M x = B at hc
  go_enter Tryd.func31, Tryd.ntmps31
  go_wp2_with fail
  go_ret
  exact ⟨rfl, rfl⟩
set_option maxHeartbeats 2000000 in
set_option maxRecDepth 100000 in
theorem indexC_is {w : World} {gb : Nat} {v u : Value} {M : List Bool} {S : List Nat} (hg : w.cell? ⟨gb, 0, none⟩ = some v) (hm : Bools w v M) (hs : I64s w u (zN S)) (hS : ∀ x, x ∈ S → x < M.length) (hl : S.length ≤ 1000000) :
    Calls Tryd.prog 34 #[u, .func (.func 31) #[] #[pt gb]] w (IndexPost w M S) := by
  obtain ⟨q, c, rfl⟩ := hs.shape
  have HZ := Lib.hid (zN_len S)
  have HV := Lib.hid hs
  have HG := Lib.hid hg
  have HM := Lib.hid hm
  have HS := Lib.hid hS
  rw [zN_len] at HV
  rw [zN_len]
  clear hs hg hm hS
  go_enter Tryd.func34, Tryd.ntmps34
  go_wp2_with fail
  go_loopw [5, 8] (fun _ iv wr => ∃ k : Nat, k ≤ S.length ∧ iv = .int .i64 k ∧ Hid (∀ x, x ∈ S.take k → setB M x = false) ∧ wr = w) (fun _ iv _ => S.length - (intOf iv).toNat)
  case atStart => exact ⟨0, Nat.zero_le _, rfl, Lib.hid (by simp), rfl⟩
  case round =>
    obtain ⟨k, hk, rfl, HK, rfl⟩ := hrel
    by_cases hlt : k < S.length
    · have hki : (k : Int) < (S.length : Int) := by omega
      obtain ⟨eb, eo, rfl, ec⟩ := HV.out.at (k := k) (by rw [HZ.out]; exact hlt)
      obtain ⟨x, hx⟩ : ∃ x, S[k] = x := ⟨_, rfl⟩
      rw [show (zN S)[k]'(by rw [HZ.out]; exact hlt) = (x : Int) from by simp [zN, hx]] at ec
      have HX := Lib.hid hx
      have hel := World.block_lt_of_cell? wr _ ec
      have HXN : Hid (x < M.length) := Lib.hid (HS.out x (by rw [← hx]; exact List.getElem_mem hlt))
      clear hx
      go_wp2_with fail
      refine (cloC_is HG.out HM.out HXN.out).mono ?_
      rintro e w' ⟨rfl, rfl⟩
      cases hI : setB M x with
      | true =>
        have HP : Hid (IndexPost wr M S (.returned (.int .i64 k)) wr) := Lib.hid ⟨_, rfl, Or.inl ⟨k, rfl, x, by rw [← HX.out]; exact List.getElem_mem hlt, hI⟩, rfl⟩
        clear hI
        go_wp2_with fail
        go_ret
        exact HP.out
      | false =>
        have HN : Hid (∀ y, y ∈ S.take (k + 1) → setB M y = false) := Lib.hid fun y hy => by
          rw [List.take_succ_eq_append_getElem hlt, HX.out] at hy
          rcases List.mem_append.1 hy with hy | hy
          · exact HK.out y hy
          · simp at hy
            exact hy ▸ hI
        clear hI
        go_wp2_with fail
        go_roundw
        case rel => exact ⟨k + 1, hlt, by go_num, HN, (by first | rfl | trivial)⟩
        case measure => simp [intOf]; omega
    · obtain rfl : k = S.length := by omega
      have HP : Hid (IndexPost wr M S (.returned (.int .i64 (-1))) wr) := Lib.hid ⟨_, rfl, Or.inr ⟨rfl, fun x hx => HK.out x (by rw [List.take_length]; exact hx)⟩, rfl⟩
      go_wp2_with fail
      go_ret
      exact HP.out
set_option maxHeartbeats 2000000 in
set_option maxRecDepth 100000 in
/-- Is one of them marked? -/
theorem containsC_is {w : World} {gb : Nat} {v u : Value} {M : List Bool} {S : List Nat} (hg : w.cell? ⟨gb, 0, none⟩ = some v) (hm : Bools w v M) (hs : I64s w u (zN S)) (hS : ∀ x, x ∈ S → x < M.length) (hl : S.length ≤ 1000000) :
    Calls Tryd.prog 17 #[u, .func (.func 31) #[] #[pt gb]] w (ContPost w M S) := by
  have HC := Lib.hid (indexC_is hg hm hs hS hl)
  clear hg hm hs hS
  go_enter Tryd.func17, Tryd.ntmps17
  go_wp2_with fail
  refine HC.out.mono ?_
  rintro e w' ⟨i, rfl, h | h, rfl⟩
  · obtain ⟨k, rfl, x, hx, hM⟩ := h
    have HP : Hid (ContPost w M S (.returned (.bool true)) w) := Lib.hid ⟨true, rfl, ⟨fun _ => ⟨x, hx, hM⟩, fun _ => rfl⟩, rfl⟩
    have hd : decide (0 ≤ (k : Int)) = true := by simp
    clear hx hM
    go_wp2_with fail
    go_ret
    exact HP.out
  · obtain ⟨rfl, hM⟩ := h
    have HP : Hid (ContPost w M S (.returned (.bool false)) w) := Lib.hid ⟨false, rfl, ⟨fun h => (by cases h), fun ⟨x, hx, hm⟩ => by rw [hM x hx] at hm; cases hm⟩, rfl⟩
    clear hM
    go_wp2_with fail
    go_ret
    exact HP.out
set_option maxHeartbeats 2000000 in
set_option maxRecDepth 100000 in
theorem cloP_is {w : World} {gb x : Nat} {v : Value} {M : List Bool} (hg : w.cell? ⟨gb, 0, none⟩ = some v) (hm : Bools w v M) (hx : x < M.length) :
    Calls Tryd.prog 18 #[.int .i64 x, pt gb] w fun e w' => e = .returned (.bool (setB M x)) ∧ w = w' := by
  obtain ⟨q, c, rfl⟩ := hm.shape
  obtain ⟨b, o, rfl, hc⟩ := hm.at hx
  rw [← setB_at hx] at hc
  have hgl := World.block_lt_of_cell? w _ hg
  have hcl := World.block_lt_of_cell? w _ hc
  have hxi : (x : Int) < (M.length : Int) := by omega
  clear hm
  generalize setB M x = B at hc
  go_enter Tryd.func18, Tryd.ntmps18
  go_wp2_with fail
  go_ret
  exact ⟨rfl, rfl⟩
set_option maxHeartbeats 2000000 in
set_option maxRecDepth 100000 in
theorem indexP_is {w : World} {gb : Nat} {v u : Value} {M : List Bool} {S : List Nat} (hg : w.cell? ⟨gb, 0, none⟩ = some v) (hm : Bools w v M) (hs : I64s w u (zN S)) (hS : ∀ x, x ∈ S → x < M.length) (hl : S.length ≤ 1000000) :
    Calls Tryd.prog 34 #[u, .func (.func 18) #[] #[pt gb]] w (IndexPost w M S) := by
  obtain ⟨q, c, rfl⟩ := hs.shape
  have HZ := Lib.hid (zN_len S)
  have HV := Lib.hid hs
  have HG := Lib.hid hg
  have HM := Lib.hid hm
  have HS := Lib.hid hS
  rw [zN_len] at HV
  rw [zN_len]
  clear hs hg hm hS
  go_enter Tryd.func34, Tryd.ntmps34
  go_wp2_with fail
  go_loopw [5, 8] (fun _ iv wr => ∃ k : Nat, k ≤ S.length ∧ iv = .int .i64 k ∧ Hid (∀ x, x ∈ S.take k → setB M x = false) ∧ wr = w) (fun _ iv _ => S.length - (intOf iv).toNat)
  case atStart => exact ⟨0, Nat.zero_le _, rfl, Lib.hid (by simp), rfl⟩
  case round =>
    obtain ⟨k, hk, rfl, HK, rfl⟩ := hrel
    by_cases hlt : k < S.length
    · have hki : (k : Int) < (S.length : Int) := by omega
      obtain ⟨eb, eo, rfl, ec⟩ := HV.out.at (k := k) (by rw [HZ.out]; exact hlt)
      obtain ⟨x, hx⟩ : ∃ x, S[k] = x := ⟨_, rfl⟩
      rw [show (zN S)[k]'(by rw [HZ.out]; exact hlt) = (x : Int) from by simp [zN, hx]] at ec
      have HX := Lib.hid hx
      have hel := World.block_lt_of_cell? wr _ ec
      have HXN : Hid (x < M.length) := Lib.hid (HS.out x (by rw [← hx]; exact List.getElem_mem hlt))
      clear hx
      go_wp2_with fail
      refine (cloP_is HG.out HM.out HXN.out).mono ?_
      rintro e w' ⟨rfl, rfl⟩
      cases hI : setB M x with
      | true =>
        have HP : Hid (IndexPost wr M S (.returned (.int .i64 k)) wr) := Lib.hid ⟨_, rfl, Or.inl ⟨k, rfl, x, by rw [← HX.out]; exact List.getElem_mem hlt, hI⟩, rfl⟩
        clear hI
        go_wp2_with fail
        go_ret
        exact HP.out
      | false =>
        have HN : Hid (∀ y, y ∈ S.take (k + 1) → setB M y = false) := Lib.hid fun y hy => by
          rw [List.take_succ_eq_append_getElem hlt, HX.out] at hy
          rcases List.mem_append.1 hy with hy | hy
          · exact HK.out y hy
          · simp at hy
            exact hy ▸ hI
        clear hI
        go_wp2_with fail
        go_roundw
        case rel => exact ⟨k + 1, hlt, by go_num, HN, (by first | rfl | trivial)⟩
        case measure => simp [intOf]; omega
    · obtain rfl : k = S.length := by omega
      have HP : Hid (IndexPost wr M S (.returned (.int .i64 (-1))) wr) := Lib.hid ⟨_, rfl, Or.inr ⟨rfl, fun x hx => HK.out x (by rw [List.take_length]; exact hx)⟩, rfl⟩
      go_wp2_with fail
      go_ret
      exact HP.out
set_option maxHeartbeats 2000000 in
set_option maxRecDepth 100000 in
/-- Is one of them marked? -/
theorem containsP_is {w : World} {gb : Nat} {v u : Value} {M : List Bool} {S : List Nat} (hg : w.cell? ⟨gb, 0, none⟩ = some v) (hm : Bools w v M) (hs : I64s w u (zN S)) (hS : ∀ x, x ∈ S → x < M.length) (hl : S.length ≤ 1000000) :
    Calls Tryd.prog 17 #[u, .func (.func 18) #[] #[pt gb]] w (ContPost w M S) := by
  have HC := Lib.hid (indexP_is hg hm hs hS hl)
  clear hg hm hs hS
  go_enter Tryd.func17, Tryd.ntmps17
  go_wp2_with fail
  refine HC.out.mono ?_
  rintro e w' ⟨i, rfl, h | h, rfl⟩
  · obtain ⟨k, rfl, x, hx, hM⟩ := h
    have HP : Hid (ContPost w M S (.returned (.bool true)) w) := Lib.hid ⟨true, rfl, ⟨fun _ => ⟨x, hx, hM⟩, fun _ => rfl⟩, rfl⟩
    have hd : decide (0 ≤ (k : Int)) = true := by simp
    clear hx hM
    go_wp2_with fail
    go_ret
    exact HP.out
  · obtain ⟨rfl, hM⟩ := h
    have HP : Hid (ContPost w M S (.returned (.bool false)) w) := Lib.hid ⟨false, rfl, ⟨fun h => (by cases h), fun ⟨x, hx, hm⟩ => by rw [hM x hx] at hm; cases hm⟩, rfl⟩
    clear hM
    go_wp2_with fail
    go_ret
    exact HP.out
end Go.Proofs.YtleheaffipokfaaDoor
