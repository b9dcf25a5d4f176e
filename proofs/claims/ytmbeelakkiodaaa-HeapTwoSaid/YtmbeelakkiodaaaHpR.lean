/-
  The document's heap.
-/
import Derived.Test.YtmbeelakkiodaaaHpG
namespace Go.Proofs.Ytmbeelakkiodaaa
open Go.RowKit

/-- What is in, told by two rows. -/
def docM (I : List Bool) (C : List Int) : Nat → Option Int := fun k => if I[k]? = some true then C[k]? else none
theorem docM_off {I : List Bool} {C : List Int} {k : Nat} (h : I[k]? = some false) : docM I C k = none := by unfold docM; rw [h, if_neg (by simp)]
theorem docM_in {I : List Bool} {C : List Int} {k : Nat} {c : Int} (h : I[k]? = some true) (hc : C[k]? = some c) : docM I C k = some c := by unfold docM; rw [h, if_pos rfl, hc]
theorem docM_out {I : List Bool} {C : List Int} {k : Nat} (h : I.length ≤ k) : docM I C k = none := by unfold docM; rw [List.getElem?_eq_none h, if_neg (by simp)]
theorem docM_put {I : List Bool} {C : List Int} {k : Nat} (c : Int) (hk : k < I.length) (hc : I.length = C.length) : docM (I.set k true) (C.set k c) = upd (docM I C) k (some c) := by
  funext j
  unfold docM upd
  by_cases e : j = k
  · subst e
    rw [get_set_at hk, get_set_at (by omega), if_pos rfl, if_pos rfl]
  · rw [get_set_ne e, get_set_ne e, if_neg e]
theorem docM_pop {I : List Bool} {C : List Int} {k : Nat} (hk : k < I.length) : docM (I.set k false) C = upd (docM I C) k none := by
  funext j
  unfold docM upd
  by_cases e : j = k
  · subst e
    rw [get_set_at hk, if_pos rfl, if_neg (by simp)]
  · rw [get_set_ne e, if_neg e]

theorem cnt_off {m : Nat → Option Int} {k : Nat} (h : m k = none) : cnt m (k + 1) = cnt m k := by
  show cnt m k + (if (m k).isSome then 1 else 0) = _
  rw [h]; rfl
theorem cnt_in {m : Nat → Option Int} {k : Nat} {c : Int} (h : m k = some c) : cnt m (k + 1) = cnt m k + 1 := by
  show cnt m k + (if (m k).isSome then 1 else 0) = _
  rw [h]; rfl
/-- The document's heap at p. -/
structure DocS (S : Nat → Prop) (w : World) (p N gi gc : Nat) (I : List Bool) (C : List Int) : Prop where
  k : Blk w p #[.slice (some ⟨gi, 0, none⟩) N N, .slice (some ⟨gc, 0, none⟩) N N] 53
  p : S p
  i : Blk w gi (I.map Value.bool).toArray 4
  iS : S gi
  c : Blk w gc (C.map (Value.int .i64)).toArray 2
  cS : S gc
  il : I.length = N
  cl : C.length = N
theorem blk_ne {w : World} {a b : Nat} {cs ds : Array Value} {s t : TypeId} (h : Blk w a cs s) (k : Blk w b ds t) (hne : s ≠ t) : a ≠ b := fun e => by
  subst e
  unfold Blk at h k
  rw [h] at k
  injection k with k
  injection k with _ k
  exact hne k
/-- The document's heap at p: its keys, and what each is at. -/
def DocAt (S : Nat → Prop) (w : World) (p N : Nat) (m : Nat → Option Int) : Prop := N ≤ 16384 ∧ ∃ I C gi gc, DocS S w p N gi gc I C ∧ m = docM I C
section
variable {S : Nat → Prop} {w w' : World} {p N gi gc : Nat} {I : List Bool} {C : List Int} {m : Nat → Option Int}
theorem DocS.keep {Q : Nat → Prop} (h : DocS S w p N gi gc I C) (hk : Keep Q w w') (hq : ∀ b, b < w.heap.size → S b → Q b) : DocS S w' p N gi gc I C :=
  ⟨(hk.mono' hq).blk h.k h.p, h.p, (hk.mono' hq).blk h.i h.iS, h.iS, (hk.mono' hq).blk h.c h.cS, h.cS, h.il, h.cl⟩
theorem DocS.old (h : DocS S w p N gi gc I C) (hb : Below w.heap.size w w') : DocS S w' p N gi gc I C := h.keep (Keep.of hb) (fun _ _ h => h)
theorem DocAt.keep {Q : Nat → Prop} (h : DocAt S w p N m) (hk : Keep Q w w') (hq : ∀ b, b < w.heap.size → S b → Q b) : DocAt S w' p N m := by
  obtain ⟨hN, I, C, gi, gc, h1, h2⟩ := h
  exact ⟨hN, I, C, gi, gc, h1.keep hk hq, h2⟩
theorem DocAt.old (h : DocAt S w p N m) (hb : Below w.heap.size w w') : DocAt S w' p N m := h.keep (Keep.of hb) (fun _ _ h => h)
theorem DocS.ic (h : DocS S w p N gi gc I C) {k : Nat} {b : Bool} (hb : I[k]? = some b) : w.cell? ⟨gi, k, none⟩ = some (.bool b) := h.i.cell k (by simp [hb])
theorem DocS.cc (h : DocS S w p N gi gc I C) {k : Nat} {c : Int} (hc : C[k]? = some c) : w.cell? ⟨gc, k, none⟩ = some (.int .i64 c) := h.c.cell k (by simp [hc])
theorem DocS.setI (h : DocS S w p N gi gc I C) (k : Nat) (b : Bool) : DocS S (w.setCell ⟨gi, k, none⟩ (.bool b)) p N gi gc (I.set k b) C ∧ Keep (fun b => ¬ S b) w (w.setCell ⟨gi, k, none⟩ (.bool b)) := by
  have h1 : gi ≠ p := blk_ne h.i h.k (by decide)
  have h2 : gi ≠ gc := blk_ne h.i h.c (by decide)
  refine ⟨⟨h.k.other _ _ (fun e => h1 e.symm), h.p, ?_, h.iS, h.c.other _ _ (fun e => h2 e.symm), h.cS, by rw [List.length_set, h.il], h.cl⟩, (Keep.refl _ _).setCell (fun k => k h.iS) _ _⟩
  have := h.i.set k (.bool b)
  simpa [List.map_set] using this
theorem DocS.setC (h : DocS S w p N gi gc I C) (k : Nat) (c : Int) : DocS S (w.setCell ⟨gc, k, none⟩ (.int .i64 c)) p N gi gc I (C.set k c) ∧ Keep (fun b => ¬ S b) w (w.setCell ⟨gc, k, none⟩ (.int .i64 c)) := by
  have h1 : gc ≠ p := blk_ne h.c h.k (by decide)
  have h2 : gc ≠ gi := blk_ne h.c h.i (by decide)
  refine ⟨⟨h.k.other _ _ (fun e => h1 e.symm), h.p, h.i.other _ _ (fun e => h2 e.symm), h.iS, ?_, h.cS, h.il, by rw [List.length_set, h.cl]⟩, (Keep.refl _ _).setCell (fun k => k h.cS) _ _⟩
  have := h.c.set k (.int .i64 c)
  simpa [List.map_set] using this

/-- Len at a round's head. -/
def LenRel (N : Nat) (m : Nat → Option Int) (a b : Value) : Prop := ∃ k : Nat, k ≤ N ∧ b = .int .i64 k ∧ a = .int .i64 (cnt m k : Nat)
set_option maxHeartbeats 2000000 in
set_option maxRecDepth 100000 in
theorem rlen_is (hN : N ≤ 16384) (h : DocS S w p N gi gc I C) : Calls Try.prog 25 #[hp p] w fun e w' => e = .returned (.int .i64 (cnt (docM I C) N)) ∧ w = w' := by
  obtain ⟨c0, c1, -, -⟩ := h.k.o2
  have H := Lib.hid h
  clear h
  go_enter Try.func25, Try.ntmps25
  go_wp2_with fail
  go_loop [3, 4] (fun a b => LenRel N (docM I C) a b) (fun _ b => N - (intOf b).toNat)
  case atStart => exact ⟨0, Nat.zero_le _, rfl, rfl⟩
  case round =>
    obtain ⟨k, hk, rfl, rfl⟩ := hrel
    have hcl := cnt_le (docM I C) k
    have hci : (cnt (docM I C) k : Int) ≤ 16384 := by omega
    by_cases hlt : k < N
    · obtain ⟨b, hb⟩ : ∃ b, I[k]? = some b := ⟨_, List.getElem?_eq_getElem (by rw [H.out.il]; exact hlt)⟩
      obtain ⟨c, hc⟩ : ∃ c, C[k]? = some c := ⟨_, List.getElem?_eq_getElem (by rw [H.out.cl]; exact hlt)⟩
      have x0 := H.out.ic hb
      have hki : (k : Int) < (N : Int) := by omega
      cases b with
      | false =>
        have HC : Hid (cnt (docM I C) (k + 1) = cnt (docM I C) k) := Lib.hid (cnt_off (docM_off hb))
        clear hb hc
        go_wp2_with fail
        go_round
        case rel => exact ⟨k + 1, hlt, by go_num, by rw [HC.out]⟩
        case measure => simp [intOf]; omega
      | true =>
        have HC : Hid (cnt (docM I C) (k + 1) = cnt (docM I C) k + 1) := Lib.hid (cnt_in (docM_in hb hc))
        clear hb hc
        go_wp2_with fail
        go_round
        case rel => exact ⟨k + 1, hlt, by go_num, by rw [HC.out]; go_num⟩
        case measure => simp [intOf]; omega
    · have hkN : k = N := by omega
      go_wp2_with fail
      go_ret
      exact ⟨rfl, rfl⟩

set_option maxHeartbeats 2000000 in
theorem rcost_neg (h : DocS S w p N gi gc I C) (k : Int) (hk : k < 0) : Calls Try.prog 26 #[hp p, .int .i64 k] w fun e w' => e = .returned (.tuple #[.int .i64 0, .bool false]) ∧ w = w' := by
  obtain ⟨c0, c1, -, -⟩ := h.k.o2
  have d0 : decide (k < 0) = true := by simpa using hk
  clear h
  go_enter Try.func26, Try.ntmps26
  go_wp2_with fail
  go_ret2
  exact ⟨rfl, rfl⟩
set_option maxHeartbeats 2000000 in
theorem rcost_big (h : DocS S w p N gi gc I C) (k : Int) (h0 : 0 ≤ k) (hk : (N : Int) ≤ k) : Calls Try.prog 26 #[hp p, .int .i64 k] w fun e w' => e = .returned (.tuple #[.int .i64 0, .bool false]) ∧ w = w' := by
  obtain ⟨c0, c1, -, -⟩ := h.k.o2
  have d0 : decide (k < 0) = false := by simpa using h0
  have d1 : decide ((N : Int) ≤ k) = true := by simpa using hk
  clear h
  go_enter Try.func26, Try.ntmps26
  go_wp2_with fail
  go_ret2
  exact ⟨rfl, rfl⟩
set_option maxHeartbeats 2000000 in
theorem rcost_off (h : DocS S w p N gi gc I C) (k : Nat) (hk : I[k]? = some false) : Calls Try.prog 26 #[hp p, .int .i64 k] w fun e w' => e = .returned (.tuple #[.int .i64 0, .bool false]) ∧ w = w' := by
  obtain ⟨c0, c1, -, -⟩ := h.k.o2
  have hl := lt_of_get hk
  rw [h.il] at hl
  have x0 := h.ic hk
  have d1 : decide (N ≤ k) = false := by simpa using hl
  have hki : (k : Int) < (N : Int) := by omega
  clear h hk
  go_enter Try.func26, Try.ntmps26
  go_wp2_with fail
  go_ret2
  exact ⟨rfl, rfl⟩
set_option maxHeartbeats 2000000 in
theorem rcost_in (h : DocS S w p N gi gc I C) (k : Nat) (c : Int) (hk : I[k]? = some true) (hc : C[k]? = some c) : Calls Try.prog 26 #[hp p, .int .i64 k] w fun e w' => e = .returned (.tuple #[.int .i64 c, .bool true]) ∧ w = w' := by
  obtain ⟨c0, c1, -, -⟩ := h.k.o2
  have hl := lt_of_get hk
  rw [h.il] at hl
  have x0 := h.ic hk
  have x1 := h.cc hc
  have d1 : decide (N ≤ k) = false := by simpa using hl
  have hki : (k : Int) < (N : Int) := by omega
  clear h hk hc
  go_enter Try.func26, Try.ntmps26
  go_wp2_with fail
  go_ret2
  exact ⟨rfl, rfl⟩

end

end Go.Proofs.Ytmbeelakkiodaaa
