/-
  Readers: what each of their calls answers, and what it leaves.
-/
import Derived.Test.YtjicekblfpgkdaaDoorWF
import Derived.Test.YtjicekblfpgkdaaDoorErrM
import Derived.RegionTactic
import Derived.Lib.SliceRun
import Derived.Test.YtjicekblfpgkdaaDoorGrow
namespace Go.Proofs.YtjicekblfpgkdaaDoor
open Go.RowKit

/-- b is a Reader's block, at place a of the bytes l, e what was wrong first: the bytes lie in block x. -/
structure RdAt (w : World) (lo b : Nat) (q : Option Addr) (c x : Nat) (l : List Int) (a : Nat) (e : Int) : Prop where
  blk : Blk w b #[.slice q l.length c, .int .i64 a, .int .i64 e] 54
  row : U8at w (.slice q l.length c) l x
  apart : l = [] ∨ (lo ≤ x ∧ x < b)
  in8 : In8 l
  le : a ≤ l.length
  few : l.length ≤ 100000
  lo : lo ≤ b
/-- .. wherever they lie. -/
def RdV (w : World) (lo b : Nat) (l : List Int) (a : Nat) (e : Int) : Prop := ∃ q c x, RdAt w lo b q c x l a e
theorem RdAt.but {w w' : World} {lo b k c x a : Nat} {q : Option Addr} {l : List Int} {e : Int} (h : RdAt w lo b q c x l a e) (hb : But k w w') (hk : k < lo ∨ b < k) : RdAt w' lo b q c x l a e := by
  have hlo := h.lo
  refine ⟨hb.blk h.blk (by omega), ?_, h.apart, h.in8, h.le, h.few, h.lo⟩
  rcases h.apart with h0 | ⟨h1, h2⟩
  · rcases h.row with h3 | ⟨_, o, c', _, _, e3, hlt, hc⟩
    · exact Or.inl h3
    · subst h0
      injection e3 with e4 e5 e6
      refine Or.inl ⟨rfl, q, c, rfl, fun hq => ?_⟩
      rw [hq] at e4; cases e4
  · exact h.row.but hb (by omega)
theorem RdAt.below {w w' : World} {lo b c x a : Nat} {q : Option Addr} {l : List Int} {e : Int} (h : RdAt w lo b q c x l a e) (hb : Below w.heap.size w w') : RdAt w' lo b q c x l a e :=
  ⟨h.blk.keep hb, h.row.below hb, h.apart, h.in8, h.le, h.few, h.lo⟩
/-- Its own block was written. -/
theorem RdAt.put {w w' : World} {lo b c x a a' : Nat} {q : Option Addr} {l : List Int} {e e' : Int} (h : RdAt w lo b q c x l a e) (hb : But b w w') (hk : Blk w' b #[.slice q l.length c, .int .i64 a', .int .i64 e'] 54) (ha : a' ≤ l.length) : RdAt w' lo b q c x l a' e' := by
  refine ⟨hk, ?_, h.apart, h.in8, ha, h.few, h.lo⟩
  rcases h.apart with h0 | ⟨h1, h2⟩
  · subst h0
    rcases h.row with h3 | ⟨_, o, c', _, _, e3, hlt, hc⟩
    · exact Or.inl h3
    · injection e3 with e4 e5 e6
      refine Or.inl ⟨rfl, q, c, rfl, fun hq => ?_⟩
      rw [hq] at e4; cases e4
  · exact h.row.but hb (by omega)
theorem RdV.but {w w' : World} {lo b k a : Nat} {l : List Int} {e : Int} (h : RdV w lo b l a e) (hb : But k w w') (hk : k < lo ∨ b < k) : RdV w' lo b l a e := by
  obtain ⟨q, c, x, h⟩ := h
  exact ⟨q, c, x, h.but hb hk⟩
theorem RdV.below {w w' : World} {lo b a : Nat} {l : List Int} {e : Int} (h : RdV w lo b l a e) (hb : Below w.heap.size w w') : RdV w' lo b l a e := by
  obtain ⟨q, c, x, h⟩ := h
  exact ⟨q, c, x, h.below hb⟩
theorem RdV.lt {w : World} {lo b a : Nat} {l : List Int} {e : Int} (h : RdV w lo b l a e) : lo ≤ b ∧ b < w.heap.size ∧ a ≤ l.length := by
  obtain ⟨q, c, x, h⟩ := h
  exact ⟨h.lo, h.blk.lt, h.le⟩
theorem RdAt.cap {w : World} {lo b c x a : Nat} {q : Option Addr} {l : List Int} {e : Int} (h : RdAt w lo b q c x l a e) : l.length ≤ c ∧ (q = none → c = 0) ∧ (q = none ∨ l = [] ∨ ∃ o, q = some ⟨x, o, none⟩) := by
  rcases h.row with ⟨rfl, p, c', e3, hp⟩ | ⟨_, o, c', h1, _, e3, hlt, hc⟩
  · injection e3 with e4 e5 e6
    subst e4 e6
    exact ⟨by simp, hp, Or.inr (Or.inl rfl)⟩
  · injection e3 with e4 e5 e6
    subst e4 e6
    exact ⟨h1, (fun h => nomatch h), Or.inr (Or.inr ⟨o, rfl⟩)⟩

theorem retS {p q : Option Addr} {n c d : Nat} (h : p = q) (k : c = d) : Ending.returned (.slice p n c) = .returned (.slice q n d) := by rw [h, k]
set_option maxRecDepth 100000 in
theorem left_any {w : World} {lo b c x a : Nat} {q : Option Addr} {l : List Int} {e : Int} (h : RdAt w lo b q c x l a e) :
    Calls Tryd.prog 27 #[.pointer (some ⟨b, 0, none⟩)] w fun ev w' => ev = .returned (.slice (moved q c a) (l.length - a) (c - a)) ∧ Below w.heap.size w w' := by
  obtain ⟨c0, c1, c2, f0, f1, f2⟩ := h.blk.o3
  obtain ⟨h1, h2, h3⟩ := h.cap
  have h4 := h.le
  have h5 := h.few
  clear h
  go_enter Tryd.func27, Tryd.ntmps27
  go_wp2_with fail
  go_region
  all_goals go_wp2
  · go_ret
    exact ⟨retS (by unfold moved; rw [if_pos rfl]) (by omega), (Below.refl _ _).drew⟩
  · go_ret
    exact ⟨retS (by unfold moved; rw [if_neg (by assumption)]) rfl, (Below.refl _ _).drew⟩
theorem at_any8 {w : World} {lo b c x a : Nat} {q : Option Addr} {l : List Int} {e : Int} (h : RdAt w lo b q c x l a e) :
    Calls Tryd.prog 17 #[.pointer (some ⟨b, 0, none⟩)] w fun ev w' => ev = .returned (.int .i64 a) ∧ w = w' := by
  obtain ⟨c0, c1, c2, f0, f1, f2⟩ := h.blk.o3
  clear h
  go_enter Tryd.func17, Tryd.ntmps17
  go_wp2
  go_ret
  exact ⟨rfl, rfl⟩
theorem pass_no {w : World} {lo b c x a : Nat} {q : Option Addr} {l : List Int} {e : Int} (h : RdAt w lo b q c x l a e) (s e1 : Int) (hn : ¬ (e = 0 ∧ e1 = 0)) :
    Calls Tryd.prog 28 #[.pointer (some ⟨b, 0, none⟩), .int .i64 s, .int .i64 e1] w fun ev w' => ev = .returned (.bool false) ∧ But b w w' ∧ RdAt w' lo b q c x l a (if e = 0 then e1 else e) := by
  obtain ⟨c0, c1, c2, f0, f1, f2⟩ := h.blk.o3
  by_cases he : e = 0
  · subst he
    have hn1 : ¬ e1 = 0 := fun h => hn ⟨rfl, h⟩
    have hn2 : (e1 == 0) = false := by simpa using hn1
    have hn3 : (e1 != 0) = true := by simpa using hn1
    have HR := Lib.hid h
    rw [if_pos rfl]
    have HP : Hid (But b w (w.setCell ⟨b, 2, none⟩ (.int .i64 e1)) ∧ RdAt (w.setCell ⟨b, 2, none⟩ (.int .i64 e1)) lo b q c x l a e1) := by
      have hb := (But.refl b w).setCell 2 (.int .i64 e1)
      refine Lib.hid ⟨hb, h.put hb ?_ h.le⟩
      have := h.blk.set 2 (.int .i64 e1)
      simpa using this
    clear h hn hn1
    go_enter Tryd.func28, Tryd.ntmps28
    go_wp2
    go_ret
    exact ⟨rfl, HP.out.1, HP.out.2⟩
  · have hn2 : (e == 0) = false := by simpa using he
    have hn3 : (e != 0) = true := by simpa using he
    have HR := Lib.hid h
    rw [if_neg he]
    clear h hn he
    go_enter Tryd.func28, Tryd.ntmps28
    go_wp2
    go_ret
    exact ⟨rfl, But.refl _ _, HR.out⟩
theorem pass_ok {w : World} {lo b c x a : Nat} {q : Option Addr} {l : List Int} (h : RdAt w lo b q c x l a 0) (s : Nat) (hs : a + s ≤ l.length) :
    Calls Tryd.prog 28 #[.pointer (some ⟨b, 0, none⟩), .int .i64 s, .int .i64 0] w fun ev w' => ev = .returned (.bool true) ∧ But b w w' ∧ RdAt w' lo b q c x l (a + s) 0 := by
  obtain ⟨c0, c1, c2, f0, f1, f2⟩ := h.blk.o3
  have hf := h.few
  have HP : Hid (But b w ((w.setCell ⟨b, 2, none⟩ (.int .i64 0)).setCell ⟨b, 1, none⟩ (.int .i64 ((a : Int) + s))) ∧ RdAt ((w.setCell ⟨b, 2, none⟩ (.int .i64 0)).setCell ⟨b, 1, none⟩ (.int .i64 ((a : Int) + s))) lo b q c x l (a + s) 0) := by
    have hb := ((But.refl b w).setCell 2 (.int .i64 0)).setCell 1 (.int .i64 ((a : Int) + s))
    refine Lib.hid ⟨hb, h.put hb ?_ hs⟩
    have := (h.blk.set 2 (.int .i64 0)).set 1 (.int .i64 ((a : Int) + s))
    simpa using this
  clear h
  go_enter Tryd.func28, Tryd.ntmps28
  go_wp2
  go_ret
  exact ⟨rfl, HP.out.1, HP.out.2⟩
theorem enough_any (v : Value) (l : List Int) (n : Int) (w : World) (h : U8s w v l) :
    Calls Tryd.prog 34 #[v, .int .i64 n] w fun ev w' => ev = .returned (.int .i64 (if n < 0 then 1 else if (l.length : Int) < n then 3 else 0)) ∧ w = w' := by
  obtain ⟨q, c, rfl⟩ := h.shape
  clear h
  by_cases h0 : n < 0
  · rw [if_pos h0]
    go_enter Tryd.func34, Tryd.ntmps34
    go_wp2
    go_ret
    exact ⟨rfl, rfl⟩
  · rw [if_neg h0]
    by_cases h1 : (l.length : Int) < n
    · rw [if_pos h1]
      go_enter Tryd.func34, Tryd.ntmps34
      go_wp2
      go_ret
      exact ⟨rfl, rfl⟩
    · rw [if_neg h1]
      go_enter Tryd.func34, Tryd.ntmps34
      go_wp2
      go_ret
      exact ⟨rfl, rfl⟩
/-- The text "byte". -/
abbrev byteB : ByteArray := ⟨#[98, 121, 116, 101]⟩
theorem fault_any8 (a : Nat) (e : Int) (w : World) :
    Calls Tryd.prog 31 #[.int .i64 a, .int .i64 e] w fun ev w' => ∃ v, ev = .returned v ∧ ErrV w' v [(byteB, a)] e ∧ (∃ k, v = .iface 61 (.pointer (some ⟨k, 0, none⟩))) ∧ Below w.heap.size w w' := by
  go_enter Tryd.func31, Tryd.ntmps31
  go_wp2
  go_ret
  refine ⟨_, rfl, ⟨w.heap.size, .iface 52 (.int .i64 e), rfl, ?_, ?_, ?_, rfl⟩, ⟨_, rfl⟩, below_new8 _⟩
  · simp
  · simp
  · simp
set_option maxRecDepth 100000 in
theorem clone_any (v : Value) (l : List Int) (w : World) (h : U8s w v l) (hl : l.length ≤ 100000) : Calls Tryd.prog 25 #[v] w (RowPost l w) := by
  obtain ⟨q, c, rfl⟩ := h.shape
  cases q with
  | none =>
    have h0 : l = [] := by
      rcases h with ⟨x, ⟨h0, _⟩ | ⟨_, o, c', _, _, e, _⟩⟩
      · exact h0
      · injection e with e1
        cases e1
    subst h0
    clear h
    have hq := Lib.run_eql_slice_nil (P := Tryd.prog) w 26 5 none 0 c 0 0 Tryd.underlying26
    go_enter Tryd.func25, Tryd.ntmps25
    go_wp2
    go_ret
    exact ⟨_, 0, rfl, Or.inl ⟨rfl, none, 0, rfl, fun _ => rfl⟩, Or.inl rfl, Below.refl _ _⟩
  | some p =>
    obtain ⟨v', w1, y, hr, h1, h2, h3, -⟩ := copy8 (w.alloc (.cells #[] 5)) (.slice (some p) l.length c) l (h.below (below_new8 _)) hl w.heap.size
    have HR := Lib.hid hr
    have HP : Hid (RowPost l w (.returned v') w1) := Lib.hid ⟨v', y, rfl, h1, h2.imp id (fun h => by simp at h; omega), (below_new8 _).trans (h3.mono (by simp))⟩
    clear h hr h1 h2 h3
    have hq := Lib.run_eql_slice_nil (P := Tryd.prog) w 26 5 (some p) l.length c 0 0 Tryd.underlying26
    go_enter Tryd.func25, Tryd.ntmps25
    go_wp2_with (at_builtin; refine wpList_append_run (by rfl) _ _ _ rfl _ _ _ rfl rfl HR.out ?_)
    go_wp2
    go_ret
    exact HP.out

/-- What New answers: a Reader of its own. -/
theorem new_any (v : Value) (l : List Int) (w : World) (h : U8s w v l) (hin : In8 l) (hl : l.length ≤ 100000) :
    Calls Tryd.prog 13 #[v] w fun ev w' => ∃ b, ev = .returned (.pointer (some ⟨b, 0, none⟩)) ∧ RdV w' w.heap.size b l 0 0 ∧ Below w.heap.size w w' := by
  go_enter Tryd.func13, Tryd.ntmps13
  go_wp2_with fail
  refine (clone_any v l _ h hl).mono ?_
  rintro ev w1 ⟨u, x, rfl, h1, h2, h3⟩
  obtain ⟨q, c, rfl⟩ := h1.shape
  have HP : Hid (RdV (w1.alloc (.cells #[.slice q l.length c, .int .i64 0, .int .i64 0] 54)) w.heap.size w1.heap.size l 0 0 ∧ Below w.heap.size w (w1.alloc (.cells #[.slice q l.length c, .int .i64 0, .int .i64 0] 54))) := by
    refine Lib.hid ⟨⟨q, c, x, Blk.new _ _ _ _ rfl, h1.below (below_new8 _), ?_, hin, by omega, hl, h3.size⟩, h3.trans ((below_new8 _).mono h3.size)⟩
    rcases h1 with ⟨rfl, _⟩ | ⟨_, _, _, _, _, _, hlt, _⟩
    · exact Or.inl rfl
    · exact h2.imp id (fun h => ⟨h, hlt⟩)
  clear h1 h2 h3
  go_wp2
  go_ret
  exact ⟨_, rfl, HP.out.1, HP.out.2⟩

/-- What was wrong first. -/
theorem err_none {w : World} {lo b c x a : Nat} {q : Option Addr} {l : List Int} {e : Int} (h : RdAt w lo b q c x l a e) (he : e = 0) :
    Calls Tryd.prog 18 #[.pointer (some ⟨b, 0, none⟩)] w fun ev w' => ev = .returned .nilIface ∧ Below w.heap.size w w' := by
  obtain ⟨c0, c1, c2, f0, f1, f2⟩ := h.blk.o3
  subst he
  clear h
  go_enter Tryd.func18, Tryd.ntmps18
  go_wp2_with fail
  go_ret
  exact ⟨rfl, Below.refl _ _⟩
theorem err_some {w : World} {lo b c x a : Nat} {q : Option Addr} {l : List Int} {e : Int} (h : RdAt w lo b q c x l a e) (he : ¬ e = 0) :
    Calls Tryd.prog 18 #[.pointer (some ⟨b, 0, none⟩)] w fun ev w' => ∃ v, ev = .returned v ∧ ErrV w' v [(byteB, a)] e ∧ (∃ k, v = .iface 61 (.pointer (some ⟨k, 0, none⟩))) ∧ Below w.heap.size w w' := by
  have KB := Lib.hid h.blk
  obtain ⟨c0, c1, c2, f0, f1, f2⟩ := h.blk.o3
  have hn2 : (e == 0) = false := by simpa using he
  clear h he
  go_enter Tryd.func18, Tryd.ntmps18
  go_wp2_with fail
  have hGS : Grows (fun w' => Below w.heap.size w w') := Grows.below w
  refine' wp_thenL _ 9 (fun w' => Below w.heap.size w w') [[], [0], [1], [2], [], [4], [5], [6], [3, 7]] (Fact.lit _ :: Fact.lit _ :: Fact.lit _ :: Fact.lit _ :: Fact.lit _ :: Fact.lit _ :: Fact.lit _ :: Fact.lit _ :: Fact.prop _ _ :: []) (by kernel_rfl) rfl (by kernel_rfl) (Below.refl _ _).drew ?seqer
  case' seqer => skip
  (first | (refine' grow_skip rfl ?wt1 ?put1 ?next1; (case wt1 => rfl)) | (refine' grow_lit rfl ?wt1 ?run1 ?put1 ?next1; (case wt1 => rfl); (case run1 => (intro w' hS H; clear H; (obtain ⟨q0, q1, q2, -, -, -⟩ := (KB.out.keep hS).o3); clear hS; go_simp; first | done | exact rfl)))); (case put1 => (simp only [Act.put, List.setIfInBounds_toArray, List.set_cons_zero, List.set_cons_succ]; first | done | exact rfl)); (case' next1 => skip)
  (first | (refine' grow_skip rfl ?wt2 ?put2 ?next2; (case wt2 => rfl)) | (refine' grow_lit rfl ?wt2 ?run2 ?put2 ?next2; (case wt2 => rfl); (case run2 => (intro w' hS H; clear H; (obtain ⟨q0, q1, q2, -, -, -⟩ := (KB.out.keep hS).o3); clear hS; go_simp; first | done | exact rfl)))); (case put2 => (simp only [Act.put, List.setIfInBounds_toArray, List.set_cons_zero, List.set_cons_succ]; first | done | exact rfl)); (case' next2 => skip)
  (first | (refine' grow_skip rfl ?wt3 ?put3 ?next3; (case wt3 => rfl)) | (refine' grow_lit rfl ?wt3 ?run3 ?put3 ?next3; (case wt3 => rfl); (case run3 => (intro w' hS H; clear H; (obtain ⟨q0, q1, q2, -, -, -⟩ := (KB.out.keep hS).o3); clear hS; go_simp; first | done | exact rfl)))); (case put3 => (simp only [Act.put, List.setIfInBounds_toArray, List.set_cons_zero, List.set_cons_succ]; first | done | exact rfl)); (case' next3 => skip)
  (first | (refine' grow_skip rfl ?wt4 ?put4 ?next4; (case wt4 => rfl)) | (refine' grow_lit rfl ?wt4 ?run4 ?put4 ?next4; (case wt4 => rfl); (case run4 => (intro w' hS H; clear H; (obtain ⟨q0, q1, q2, -, -, -⟩ := (KB.out.keep hS).o3); clear hS; go_simp; first | done | exact rfl)))); (case put4 => (simp only [Act.put, List.setIfInBounds_toArray, List.set_cons_zero, List.set_cons_succ]; first | done | exact rfl)); (case' next4 => skip)
  (first | (refine' grow_skip rfl ?wt5 ?put5 ?next5; (case wt5 => rfl)) | (refine' grow_lit rfl ?wt5 ?run5 ?put5 ?next5; (case wt5 => rfl); (case run5 => (intro w' hS H; clear H; (obtain ⟨q0, q1, q2, -, -, -⟩ := (KB.out.keep hS).o3); clear hS; go_simp; first | done | exact rfl)))); (case put5 => (simp only [Act.put, List.setIfInBounds_toArray, List.set_cons_zero, List.set_cons_succ]; first | done | exact rfl)); (case' next5 => skip)
  (first | (refine' grow_skip rfl ?wt6 ?put6 ?next6; (case wt6 => rfl)) | (refine' grow_lit rfl ?wt6 ?run6 ?put6 ?next6; (case wt6 => rfl); (case run6 => (intro w' hS H; clear H; (obtain ⟨q0, q1, q2, -, -, -⟩ := (KB.out.keep hS).o3); clear hS; go_simp; first | done | exact rfl)))); (case put6 => (simp only [Act.put, List.setIfInBounds_toArray, List.set_cons_zero, List.set_cons_succ]; first | done | exact rfl)); (case' next6 => skip)
  (first | (refine' grow_skip rfl ?wt7 ?put7 ?next7; (case wt7 => rfl)) | (refine' grow_lit rfl ?wt7 ?run7 ?put7 ?next7; (case wt7 => rfl); (case run7 => (intro w' hS H; clear H; (obtain ⟨q0, q1, q2, -, -, -⟩ := (KB.out.keep hS).o3); clear hS; go_simp; first | done | exact rfl)))); (case put7 => (simp only [Act.put, List.setIfInBounds_toArray, List.set_cons_zero, List.set_cons_succ]; first | done | exact rfl)); (case' next7 => skip)
  (first | (refine' grow_skip rfl ?wt8 ?put8 ?next8; (case wt8 => rfl)) | (refine' grow_lit rfl ?wt8 ?run8 ?put8 ?next8; (case wt8 => rfl); (case run8 => (intro w' hS H; clear H; (obtain ⟨q0, q1, q2, -, -, -⟩ := (KB.out.keep hS).o3); clear hS; go_simp; first | done | exact rfl)))); (case put8 => (simp only [Act.put, List.setIfInBounds_toArray, List.set_cons_zero, List.set_cons_succ]; first | done | exact rfl)); (case' next8 => skip)
  (refine' grow_callP (p := fun v w => ErrV w v [(byteB, a)] e ∧ (∃ k, v = .iface 61 (.pointer (some ⟨k, 0, none⟩)))) (hp := fun v w w' h hb => ⟨h.1.below hb, h.2⟩) rfl Tryd.func31 (by kernel_rfl) rfl hGS rfl ?wt9 ?run9 ?put9 ?next9; (case wt9 => rfl); (case run9 => (intro w' hS H; exact (fault_any8 a e w').mono (fun e w2 ⟨v, h1, h2, h3, h4⟩ => ⟨v, h1, ⟨h2, h3⟩, h4⟩))); (case put9 => (intro v; simp only [Act.put, List.setIfInBounds_toArray, List.set_cons_zero, List.set_cons_succ]; first | done | exact rfl)); (case' next9 => intro v8))
  intro w9 hb hk
  have q8 : ErrV w9 v8 [(byteB, a)] e ∧ (∃ k, v8 = .iface 61 (.pointer (some ⟨k, 0, none⟩))) := hk 8 (by decide)
  clear hk hGS
  have HQ := Lib.hid q8
  have HB := Lib.hid hb
  clear q8 hb
  refine wpAny_ready (rs := [9]) (by kernel_rfl) (by simp) (AllReady.cons rfl (fun K hK => ?_) AllReady.nil)
  go_simp
  refine hK _ _ ?_
  clear hK K
  refine wpAny_done (by kernel_rfl) ?_ _
  go_wp2_with fail
  go_ret
  exact ⟨_, rfl, HQ.out.1, HQ.out.2, HB.out⟩

/-- .. or that not all was read. -/
theorem done_none {w : World} {lo b c x a : Nat} {q : Option Addr} {l : List Int} {e : Int} (h : RdAt w lo b q c x l a e) (he : e = 0) (hd : ¬ a < l.length) :
    Calls Tryd.prog 16 #[.pointer (some ⟨b, 0, none⟩)] w fun ev w' => ev = .returned .nilIface ∧ Below w.heap.size w w' := by
  have H := Lib.hid h
  have HE := Lib.hid he
  have h1 := h.le
  clear h he
  go_enter Tryd.func16, Tryd.ntmps16
  go_wp2_with fail
  refine (err_none H.out HE.out).mono ?_
  rintro ev w1 ⟨rfl, hb⟩
  have H1 := Lib.hid (H.out.below hb)
  have B1 := Lib.hid hb
  clear hb
  go_wp2_with fail
  refine (left_any H1.out).mono ?_
  rintro ev w2 ⟨rfl, hb⟩
  have B2 := Lib.hid (B1.out.trans (hb.mono B1.out.size))
  clear hb
  have h2 : l.length - a = 0 := by omega
  go_wp2_with fail
  go_ret
  exact ⟨rfl, B2.out⟩
theorem done_long {w : World} {lo b c x a : Nat} {q : Option Addr} {l : List Int} {e : Int} (h : RdAt w lo b q c x l a e) (he : e = 0) (hd : a < l.length) :
    Calls Tryd.prog 16 #[.pointer (some ⟨b, 0, none⟩)] w fun ev w' => ∃ v, ev = .returned v ∧ ErrV w' v [(byteB, a)] 4 ∧ (∃ k, v = .iface 61 (.pointer (some ⟨k, 0, none⟩))) ∧ Below w.heap.size w w' := by
  have H := Lib.hid h
  have HE := Lib.hid he
  have h1 := h.le
  clear h he
  go_enter Tryd.func16, Tryd.ntmps16
  go_wp2_with fail
  refine (err_none H.out HE.out).mono ?_
  rintro ev w1 ⟨rfl, hb⟩
  have H1 := Lib.hid (H.out.below hb)
  have B1 := Lib.hid hb
  clear hb
  go_wp2_with fail
  refine (left_any H1.out).mono ?_
  rintro ev w2 ⟨rfl, hb⟩
  obtain ⟨c0, c1, c2, f0, f1, f2⟩ := (H1.out.below hb).blk.o3
  have B2 := Lib.hid (B1.out.trans (hb.mono B1.out.size))
  clear hb
  obtain ⟨k, hk⟩ : ∃ k, l.length - a = k := ⟨_, rfl⟩
  have h2 : 0 < k := by omega
  rw [hk]
  go_wp2_with fail
  refine (fault_any8 a 4 _).mono ?_
  rintro ev w3 ⟨v, rfl, g1, ⟨g2, rfl⟩, hb⟩
  have HP := Lib.hid g1
  have B3 := Lib.hid (B2.out.trans (hb.mono B2.out.size))
  clear hb g1
  go_wp2_with fail
  go_ret
  exact ⟨_, rfl, HP.out, ⟨_, rfl⟩, B3.out⟩
theorem done_some {w : World} {lo b c x a : Nat} {q : Option Addr} {l : List Int} {e : Int} (h : RdAt w lo b q c x l a e) (he : ¬ e = 0) :
    Calls Tryd.prog 16 #[.pointer (some ⟨b, 0, none⟩)] w fun ev w' => ∃ v, ev = .returned v ∧ ErrV w' v [(byteB, a)] e ∧ (∃ k, v = .iface 61 (.pointer (some ⟨k, 0, none⟩))) ∧ Below w.heap.size w w' := by
  have H := Lib.hid h
  have HE := Lib.hid he
  clear h he
  go_enter Tryd.func16, Tryd.ntmps16
  go_wp2_with fail
  refine (err_some H.out HE.out).mono ?_
  rintro ev w3 ⟨v, rfl, g1, ⟨g2, rfl⟩, hb⟩
  have HP := Lib.hid g1
  have B3 := Lib.hid hb
  clear hb g1
  go_wp2_with fail
  go_ret
  exact ⟨_, rfl, HP.out, ⟨_, rfl⟩, B3.out⟩

end Go.Proofs.YtjicekblfpgkdaaDoor
