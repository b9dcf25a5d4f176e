/-
  Readers: what each of their calls answers, and what it leaves.
-/
import Derived.Test.YtjapdbegfanfiaaGreatDoorWF
import Derived.Test.YtjapdbegfanfiaaGreatDoorA2
import Derived.RegionTactic
import Derived.Lib.SliceRun
import Derived.Test.YtjapdbegfanfiaaGreatDoorGrow
import Derived.Test.YtjapdbegfanfiaaGreatDoorWU
namespace Go.Proofs.YtjapdbegfanfiaaGreatDoor
open Go.RowKit

/-- b is a Reader's block, at place a of the bytes l, e what was wrong first: the bytes lie in block x. -/
structure RdAt (w : World) (lo b : Nat) (q : Option Addr) (c x : Nat) (l : List Int) (a : Nat) (e : Int) : Prop where
  blk : Blk w b #[.slice q l.length c, .int .i64 a, .int .i64 e] 110
  row : U8at w (.slice q l.length c) l x
  apart : l = [] ∨ (lo ≤ x ∧ x < b)
  in8 : In8 l
  le : a ≤ l.length
  few : l.length ≤ 100000
  lo : lo ≤ b
/-- .. wherever they lie. -/
def RdV (w : World) (lo b : Nat) (l : List Int) (a : Nat) (e : Int) : Prop := ∃ q c x, RdAt w lo b q c x l a e
theorem RdAt.but {w w' : World} {lo b k c x a : Nat} {q : Option Addr} {l : List Int} {e : Int} (h : RdAt w lo b q c x l a e) (hb : But k w w') (hk : k < lo ∨ b < k) : RdAt w' lo b q c x l a e := by
  have hlo := h.lo
  refine ⟨hb.blk h.blk (by omega), ?_, h.apart, h.in8, h.le, h.few, h.lo⟩
  rcases h.apart with h0 | ⟨h1, h2⟩
  · rcases h.row with h3 | ⟨_, o, c', _, _, e3, hlt, hc⟩
    · exact Or.inl h3
    · subst h0
      injection e3 with e4 e5 e6
      refine Or.inl ⟨rfl, q, c, rfl, fun hq => ?_⟩
      rw [hq] at e4; cases e4
  · exact h.row.but hb (by omega)
theorem RdAt.below {w w' : World} {lo b c x a : Nat} {q : Option Addr} {l : List Int} {e : Int} (h : RdAt w lo b q c x l a e) (hb : Below w.heap.size w w') : RdAt w' lo b q c x l a e :=
  ⟨h.blk.keep hb, h.row.below hb, h.apart, h.in8, h.le, h.few, h.lo⟩
/-- Its own block was written. -/
theorem RdAt.put {w w' : World} {lo b c x a a' : Nat} {q : Option Addr} {l : List Int} {e e' : Int} (h : RdAt w lo b q c x l a e) (hb : But b w w') (hk : Blk w' b #[.slice q l.length c, .int .i64 a', .int .i64 e'] 110) (ha : a' ≤ l.length) : RdAt w' lo b q c x l a' e' := by
  refine ⟨hk, ?_, h.apart, h.in8, ha, h.few, h.lo⟩
  rcases h.apart with h0 | ⟨h1, h2⟩
  · subst h0
    rcases h.row with h3 | ⟨_, o, c', _, _, e3, hlt, hc⟩
    · exact Or.inl h3
    · injection e3 with e4 e5 e6
      refine Or.inl ⟨rfl, q, c, rfl, fun hq => ?_⟩
      rw [hq] at e4; cases e4
  · exact h.row.but hb (by omega)
theorem RdV.but {w w' : World} {lo b k a : Nat} {l : List Int} {e : Int} (h : RdV w lo b l a e) (hb : But k w w') (hk : k < lo ∨ b < k) : RdV w' lo b l a e := by
  obtain ⟨q, c, x, h⟩ := h
  exact ⟨q, c, x, h.but hb hk⟩
theorem RdV.below {w w' : World} {lo b a : Nat} {l : List Int} {e : Int} (h : RdV w lo b l a e) (hb : Below w.heap.size w w') : RdV w' lo b l a e := by
  obtain ⟨q, c, x, h⟩ := h
  exact ⟨q, c, x, h.below hb⟩
theorem RdV.lt {w : World} {lo b a : Nat} {l : List Int} {e : Int} (h : RdV w lo b l a e) : lo ≤ b ∧ b < w.heap.size ∧ a ≤ l.length := by
  obtain ⟨q, c, x, h⟩ := h
  exact ⟨h.lo, h.blk.lt, h.le⟩
theorem RdAt.cap {w : World} {lo b c x a : Nat} {q : Option Addr} {l : List Int} {e : Int} (h : RdAt w lo b q c x l a e) : l.length ≤ c ∧ (q = none → c = 0) ∧ (q = none ∨ l = [] ∨ ∃ o, q = some ⟨x, o, none⟩) := by
  rcases h.row with ⟨rfl, p, c', e3, hp⟩ | ⟨_, o, c', h1, _, e3, hlt, hc⟩
  · injection e3 with e4 e5 e6
    subst e4 e6
    exact ⟨by simp, hp, Or.inr (Or.inl rfl)⟩
  · injection e3 with e4 e5 e6
    subst e4 e6
    exact ⟨h1, (fun h => nomatch h), Or.inr (Or.inr ⟨o, rfl⟩)⟩

theorem retS {p q : Option Addr} {n c d : Nat} (h : p = q) (k : c = d) : Ending.returned (.slice p n c) = .returned (.slice q n d) := by rw [h, k]
set_option maxRecDepth 100000 in
theorem left_any {w : World} {lo b c x a : Nat} {q : Option Addr} {l : List Int} {e : Int} (h : RdAt w lo b q c x l a e) :
    Calls Tryz.prog 60 #[.pointer (some ⟨b, 0, none⟩)] w fun ev w' => ev = .returned (.slice (moved q c a) (l.length - a) (c - a)) ∧ Below w.heap.size w w' := by
  obtain ⟨c0, c1, c2, f0, f1, f2⟩ := h.blk.o3
  obtain ⟨h1, h2, h3⟩ := h.cap
  have h4 := h.le
  have h5 := h.few
  clear h
  go_enter Tryz.func60, Tryz.ntmps60
  go_wp2_with fail
  go_region
  all_goals go_wp2
  · go_ret
    exact ⟨retS (by unfold moved; rw [if_pos rfl]) (by omega), (Below.refl _ _).drew⟩
  · go_ret
    exact ⟨retS (by unfold moved; rw [if_neg (by assumption)]) rfl, (Below.refl _ _).drew⟩
theorem pass_no {w : World} {lo b c x a : Nat} {q : Option Addr} {l : List Int} {e : Int} (h : RdAt w lo b q c x l a e) (s e1 : Int) (hn : ¬ (e = 0 ∧ e1 = 0)) :
    Calls Tryz.prog 101 #[.pointer (some ⟨b, 0, none⟩), .int .i64 s, .int .i64 e1] w fun ev w' => ev = .returned (.bool false) ∧ But b w w' ∧ RdAt w' lo b q c x l a (if e = 0 then e1 else e) := by
  obtain ⟨c0, c1, c2, f0, f1, f2⟩ := h.blk.o3
  by_cases he : e = 0
  · subst he
    have hn1 : ¬ e1 = 0 := fun h => hn ⟨rfl, h⟩
    have hn2 : (e1 == 0) = false := by simpa using hn1
    have hn3 : (e1 != 0) = true := by simpa using hn1
    have HR := Lib.hid h
    rw [if_pos rfl]
    have HP : Hid (But b w (w.setCell ⟨b, 2, none⟩ (.int .i64 e1)) ∧ RdAt (w.setCell ⟨b, 2, none⟩ (.int .i64 e1)) lo b q c x l a e1) := by
      have hb := (But.refl b w).setCell 2 (.int .i64 e1)
      refine Lib.hid ⟨hb, h.put hb ?_ h.le⟩
      have := h.blk.set 2 (.int .i64 e1)
      simpa using this
    clear h hn hn1
    go_enter Tryz.func101, Tryz.ntmps101
    go_wp2
    go_ret
    exact ⟨rfl, HP.out.1, HP.out.2⟩
  · have hn2 : (e == 0) = false := by simpa using he
    have hn3 : (e != 0) = true := by simpa using he
    have HR := Lib.hid h
    rw [if_neg he]
    clear h hn he
    go_enter Tryz.func101, Tryz.ntmps101
    go_wp2
    go_ret
    exact ⟨rfl, But.refl _ _, HR.out⟩
theorem pass_ok {w : World} {lo b c x a : Nat} {q : Option Addr} {l : List Int} (h : RdAt w lo b q c x l a 0) (s : Nat) (hs : a + s ≤ l.length) :
    Calls Tryz.prog 101 #[.pointer (some ⟨b, 0, none⟩), .int .i64 s, .int .i64 0] w fun ev w' => ev = .returned (.bool true) ∧ But b w w' ∧ RdAt w' lo b q c x l (a + s) 0 := by
  obtain ⟨c0, c1, c2, f0, f1, f2⟩ := h.blk.o3
  have hf := h.few
  have HP : Hid (But b w ((w.setCell ⟨b, 2, none⟩ (.int .i64 0)).setCell ⟨b, 1, none⟩ (.int .i64 ((a : Int) + s))) ∧ RdAt ((w.setCell ⟨b, 2, none⟩ (.int .i64 0)).setCell ⟨b, 1, none⟩ (.int .i64 ((a : Int) + s))) lo b q c x l (a + s) 0) := by
    have hb := ((But.refl b w).setCell 2 (.int .i64 0)).setCell 1 (.int .i64 ((a : Int) + s))
    refine Lib.hid ⟨hb, h.put hb ?_ hs⟩
    have := (h.blk.set 2 (.int .i64 0)).set 1 (.int .i64 ((a : Int) + s))
    simpa using this
  clear h
  go_enter Tryz.func101, Tryz.ntmps101
  go_wp2
  go_ret
  exact ⟨rfl, HP.out.1, HP.out.2⟩
/-- The text "byte". -/
abbrev byteB : ByteArray := ⟨#[98, 121, 116, 101]⟩
theorem fault_any8 (a : Nat) (e : Int) (w : World) :
    Calls Tryz.prog 61 #[.int .i64 a, .int .i64 e] w fun ev w' => ∃ v, ev = .returned v ∧ ErrV w' v [(byteB, a)] e ∧ (∃ k, v = .iface 84 (.pointer (some ⟨k, 0, none⟩))) ∧ Below w.heap.size w w' := by
  go_enter Tryz.func61, Tryz.ntmps61
  go_wp2
  go_ret
  refine ⟨_, rfl, ⟨w.heap.size, .iface 83 (.int .i64 e), rfl, ?_, ?_, ?_, rfl⟩, ⟨_, rfl⟩, below_new8 _⟩
  · simp
  · simp
  · simp
set_option maxRecDepth 100000 in
theorem clone8_any (v : Value) (l : List Int) (w : World) (h : U8s w v l) (hl : l.length ≤ 100000) : Calls Tryz.prog 52 #[v] w (RowPost8 l w) := by
  obtain ⟨q, c, rfl⟩ := h.shape
  cases q with
  | none =>
    have h0 : l = [] := by
      rcases h with ⟨x, ⟨h0, _⟩ | ⟨_, o, c', _, _, e, _⟩⟩
      · exact h0
      · injection e with e1
        cases e1
    subst h0
    clear h
    have hq := Lib.run_eql_slice_nil (P := Tryz.prog) w 22 5 none 0 c 0 0 Tryz.underlying22
    go_enter Tryz.func52, Tryz.ntmps52
    go_wp2
    go_ret
    exact ⟨_, 0, rfl, Or.inl ⟨rfl, none, 0, rfl, fun _ => rfl⟩, Or.inl rfl, Below.refl _ _⟩
  | some p =>
    obtain ⟨v', w1, y, hr, h1, h2, h3, -⟩ := copy8 (w.alloc (.cells #[] 5)) (.slice (some p) l.length c) l (h.below (below_new8 _)) hl w.heap.size
    have HR := Lib.hid hr
    have HP : Hid (RowPost8 l w (.returned v') w1) := Lib.hid ⟨v', y, rfl, h1, h2.imp id (fun h => by simp at h; omega), (below_new8 _).trans (h3.mono (by simp))⟩
    clear h hr h1 h2 h3
    have hq := Lib.run_eql_slice_nil (P := Tryz.prog) w 22 5 (some p) l.length c 0 0 Tryz.underlying22
    go_enter Tryz.func52, Tryz.ntmps52
    go_wp2_with (at_builtin; refine wpList_append_run (by rfl) _ _ _ rfl _ _ _ rfl rfl HR.out ?_)
    go_wp2
    go_ret
    exact HP.out

/-- What New answers: a Reader of its own. -/
theorem new_any (v : Value) (l : List Int) (w : World) (h : U8s w v l) (hin : In8 l) (hl : l.length ≤ 100000) :
    Calls Tryz.prog 24 #[v] w fun ev w' => ∃ b, ev = .returned (.pointer (some ⟨b, 0, none⟩)) ∧ RdV w' w.heap.size b l 0 0 ∧ Below w.heap.size w w' := by
  go_enter Tryz.func24, Tryz.ntmps24
  go_wp2_with fail
  refine (clone8_any v l _ h hl).mono ?_
  rintro ev w1 ⟨u, x, rfl, h1, h2, h3⟩
  obtain ⟨q, c, rfl⟩ := h1.shape
  have HP : Hid (RdV (w1.alloc (.cells #[.slice q l.length c, .int .i64 0, .int .i64 0] 110)) w.heap.size w1.heap.size l 0 0 ∧ Below w.heap.size w (w1.alloc (.cells #[.slice q l.length c, .int .i64 0, .int .i64 0] 110))) := by
    refine Lib.hid ⟨⟨q, c, x, Blk.new _ _ _ _ rfl, h1.below (below_new8 _), ?_, hin, by omega, hl, h3.size⟩, h3.trans ((below_new8 _).mono h3.size)⟩
    rcases h1 with ⟨rfl, _⟩ | ⟨_, _, _, _, _, _, hlt, _⟩
    · exact Or.inl rfl
    · exact h2.imp id (fun h => ⟨h, hlt⟩)
  clear h1 h2 h3
  go_wp2
  go_ret
  exact ⟨_, rfl, HP.out.1, HP.out.2⟩

/-- What was wrong first. -/
theorem err_none {w : World} {lo b c x a : Nat} {q : Option Addr} {l : List Int} {e : Int} (h : RdAt w lo b q c x l a e) (he : e = 0) :
    Calls Tryz.prog 59 #[.pointer (some ⟨b, 0, none⟩)] w fun ev w' => ev = .returned .nilIface ∧ Below w.heap.size w w' := by
  obtain ⟨c0, c1, c2, f0, f1, f2⟩ := h.blk.o3
  subst he
  clear h
  go_enter Tryz.func59, Tryz.ntmps59
  go_wp2_with fail
  go_ret
  exact ⟨rfl, Below.refl _ _⟩
theorem err_some {w : World} {lo b c x a : Nat} {q : Option Addr} {l : List Int} {e : Int} (h : RdAt w lo b q c x l a e) (he : ¬ e = 0) :
    Calls Tryz.prog 59 #[.pointer (some ⟨b, 0, none⟩)] w fun ev w' => ∃ v, ev = .returned v ∧ ErrV w' v [(byteB, a)] e ∧ (∃ k, v = .iface 84 (.pointer (some ⟨k, 0, none⟩))) ∧ Below w.heap.size w w' := by
  have KB := Lib.hid h.blk
  obtain ⟨c0, c1, c2, f0, f1, f2⟩ := h.blk.o3
  have hn2 : (e == 0) = false := by simpa using he
  clear h he
  go_enter Tryz.func59, Tryz.ntmps59
  go_wp2_with fail
  have hGS : Grows (fun w' => Below w.heap.size w w') := Grows.below w
  refine' wp_thenL _ 9 (fun w' => Below w.heap.size w w') [[], [0], [1], [2], [], [4], [5], [6], [3, 7]] (Fact.lit _ :: Fact.lit _ :: Fact.lit _ :: Fact.lit _ :: Fact.lit _ :: Fact.lit _ :: Fact.lit _ :: Fact.lit _ :: Fact.prop _ _ :: []) (by kernel_rfl) rfl (by kernel_rfl) (Below.refl _ _).drew ?seqer
  case' seqer => skip
  iterate 8 ((first | (apply grow_skip; (case hf => rfl); (case hw => rfl)) | (apply grow_lit; (case hf => rfl); (case hw => rfl); (case hrun => (intro w' hS H; clear H; (obtain ⟨q0, q1, q2, -, -, -⟩ := (KB.out.keep hS).o3); clear hS; go_simp; first | done | exact rfl)))); (case hc => (simp only [Act.put, List.setIfInBounds_toArray, List.set_cons_zero, List.set_cons_succ]; first | done | exact rfl)); (try (case hj => rfl)))
  (refine' grow_callP (p := fun v w => ErrV w v [(byteB, a)] e ∧ (∃ k, v = .iface 84 (.pointer (some ⟨k, 0, none⟩)))) (hp := fun v w w' h hb => ⟨h.1.below hb, h.2⟩) rfl Tryz.func61 (by kernel_rfl) rfl hGS rfl ?wt1 ?run1 ?put1 ?next1; (case wt1 => rfl); (case run1 => (intro w' hS H; exact (fault_any8 a e w').mono (fun e w2 ⟨v, h1, h2, h3, h4⟩ => ⟨v, h1, ⟨h2, h3⟩, h4⟩))); (case put1 => (intro v; simp only [Act.put, List.setIfInBounds_toArray, List.set_cons_zero, List.set_cons_succ]; first | done | exact rfl)); (case' next1 => intro v8))
  intro w9 hb hk
  have q8 : ErrV w9 v8 [(byteB, a)] e ∧ (∃ k, v8 = .iface 84 (.pointer (some ⟨k, 0, none⟩))) := hk 8 (by decide)
  clear hk hGS
  have HQ := Lib.hid q8
  have HB := Lib.hid hb
  clear q8 hb
  refine wpAny_ready (rs := [9]) (by kernel_rfl) (by simp) (AllReady.cons rfl (fun K hK => ?_) AllReady.nil)
  go_simp
  refine hK _ _ ?_
  clear hK K
  refine wpAny_done (by kernel_rfl) ?_ _
  go_wp2_with fail
  go_ret
  exact ⟨_, rfl, HQ.out.1, HQ.out.2, HB.out⟩

/-- .. or that not all was read. -/
theorem done_none {w : World} {lo b c x a : Nat} {q : Option Addr} {l : List Int} {e : Int} (h : RdAt w lo b q c x l a e) (he : e = 0) (hd : ¬ a < l.length) :
    Calls Tryz.prog 26 #[.pointer (some ⟨b, 0, none⟩)] w fun ev w' => ev = .returned .nilIface ∧ Below w.heap.size w w' := by
  have H := Lib.hid h
  have HE := Lib.hid he
  have h1 := h.le
  clear h he
  go_enter Tryz.func26, Tryz.ntmps26
  go_wp2_with fail
  refine (err_none H.out HE.out).mono ?_
  rintro ev w1 ⟨rfl, hb⟩
  have H1 := Lib.hid (H.out.below hb)
  have B1 := Lib.hid hb
  clear hb
  go_wp2_with fail
  refine (left_any H1.out).mono ?_
  rintro ev w2 ⟨rfl, hb⟩
  have B2 := Lib.hid (B1.out.trans (hb.mono B1.out.size))
  clear hb
  have h2 : l.length - a = 0 := by omega
  go_wp2_with fail
  go_ret
  exact ⟨rfl, B2.out⟩
theorem done_long {w : World} {lo b c x a : Nat} {q : Option Addr} {l : List Int} {e : Int} (h : RdAt w lo b q c x l a e) (he : e = 0) (hd : a < l.length) :
    Calls Tryz.prog 26 #[.pointer (some ⟨b, 0, none⟩)] w fun ev w' => ∃ v, ev = .returned v ∧ ErrV w' v [(byteB, a)] 4 ∧ (∃ k, v = .iface 84 (.pointer (some ⟨k, 0, none⟩))) ∧ Below w.heap.size w w' := by
  have H := Lib.hid h
  have HE := Lib.hid he
  have h1 := h.le
  clear h he
  go_enter Tryz.func26, Tryz.ntmps26
  go_wp2_with fail
  refine (err_none H.out HE.out).mono ?_
  rintro ev w1 ⟨rfl, hb⟩
  have H1 := Lib.hid (H.out.below hb)
  have B1 := Lib.hid hb
  clear hb
  go_wp2_with fail
  refine (left_any H1.out).mono ?_
  rintro ev w2 ⟨rfl, hb⟩
  obtain ⟨c0, c1, c2, f0, f1, f2⟩ := (H1.out.below hb).blk.o3
  have B2 := Lib.hid (B1.out.trans (hb.mono B1.out.size))
  clear hb
  obtain ⟨k, hk⟩ : ∃ k, l.length - a = k := ⟨_, rfl⟩
  have h2 : 0 < k := by omega
  rw [hk]
  go_wp2_with fail
  refine (fault_any8 a 4 _).mono ?_
  rintro ev w3 ⟨v, rfl, g1, ⟨g2, rfl⟩, hb⟩
  have HP := Lib.hid g1
  have B3 := Lib.hid (B2.out.trans (hb.mono B2.out.size))
  clear hb g1
  go_wp2_with fail
  go_ret
  exact ⟨_, rfl, HP.out, ⟨_, rfl⟩, B3.out⟩
theorem done_some {w : World} {lo b c x a : Nat} {q : Option Addr} {l : List Int} {e : Int} (h : RdAt w lo b q c x l a e) (he : ¬ e = 0) :
    Calls Tryz.prog 26 #[.pointer (some ⟨b, 0, none⟩)] w fun ev w' => ∃ v, ev = .returned v ∧ ErrV w' v [(byteB, a)] e ∧ (∃ k, v = .iface 84 (.pointer (some ⟨k, 0, none⟩))) ∧ Below w.heap.size w w' := by
  have H := Lib.hid h
  have HE := Lib.hid he
  clear h he
  go_enter Tryz.func26, Tryz.ntmps26
  go_wp2_with fail
  refine (err_some H.out HE.out).mono ?_
  rintro ev w3 ⟨v, rfl, g1, ⟨g2, rfl⟩, hb⟩
  have HP := Lib.hid g1
  have B3 := Lib.hid hb
  clear hb g1
  go_wp2_with fail
  go_ret
  exact ⟨_, rfl, HP.out, ⟨_, rfl⟩, B3.out⟩

end Go.Proofs.YtjapdbegfanfiaaGreatDoor

/-
  What a Reader reads: numbers, folded numbers, bytes.
-/
namespace Go.Proofs.YtjapdbegfanfiaaGreatDoor
open Go.RowKit

/-- A number of at most M, from place a on: it itself, the place behind, what was wrong. -/
def uintR (l : List Int) (a : Nat) (e : Int) (M : Int) : Int × Nat × Int :=
  if e = 0 then (if (rd (l.drop a)).2.2 = 0 then (if M < (rd (l.drop a)).1 then (0, a, 8) else ((rd (l.drop a)).1, a + (rd (l.drop a)).2.1, 0)) else (0, a, (rd (l.drop a)).2.2)) else (0, a, e)
/-- A folded one. -/
def intR (l : List Int) (a : Nat) (e : Int) (M : Int) : Int × Nat × Int :=
  if e = 0 then (if (rd (l.drop a)).2.2 = 0 then (if M < amtZ (rd (l.drop a)).1 then (0, a, 8) else (unfZ (rd (l.drop a)).1, a + (rd (l.drop a)).2.1, 0)) else (0, a, (rd (l.drop a)).2.2)) else (0, a, e)
/-- The next n bytes. -/
def bytesR (l : List Int) (a : Nat) (e : Int) (n : Int) : List Int × Nat × Int :=
  if e = 0 then (if n < 0 then ([], a, 1) else if (l.length : Int) - a < n then ([], a, 3) else ((l.drop a).take n.toNat, a + n.toNat, 0)) else ([], a, e)
def UPost (k : IntKind) (R : Int × Nat × Int) (w : World) (lo b : Nat) (l : List Int) (ev : Ending) (w' : World) : Prop :=
  ev = .returned (.int k R.1) ∧ RdV w' lo b l R.2.1 R.2.2 ∧ But b w w'
theorem upost_of {k : IntKind} {R : Int × Nat × Int} {w w' : World} {lo b c x : Nat} {q : Option Addr} {l : List Int} {V : Int} {a' : Nat} {e' : Int} (hr : R = (V, a', e')) (h : RdAt w' lo b q c x l a' e') (hb : But b w w') : UPost k R w lo b l (.returned (.int k V)) w' := by
  subst hr
  exact ⟨rfl, ⟨q, c, x, h⟩, hb⟩
theorem rd_err (l : List Int) : (rd l).2.2 = 0 ∨ (rd l).2.2 = 2 ∨ (rd l).2.2 = 3 := rdF_err 10 true l
/-- What is read ahead of the test. -/
theorem left_row {w : World} {lo b c x a : Nat} {q : Option Addr} {l : List Int} {e : Int} (h : RdAt w lo b q c x l a e) : U8s w (.slice (moved q c a) (l.length - a) (c - a)) (l.drop a) ∧ In8 (l.drop a) := ⟨⟨x, h.row.drop a h.le⟩, h.in8.drop a⟩

set_option maxRecDepth 100000 in
set_option maxHeartbeats 1000000 in
theorem uint_any {w : World} {lo b c x a : Nat} {q : Option Addr} {l : List Int} {e : Int} (h : RdAt w lo b q c x l a e) (M : Int) :
    Calls Tryz.prog 83 #[.pointer (some ⟨b, 0, none⟩), .int .u64 M] w (UPost .u64 (uintR l a e M) w lo b l) := by
  obtain ⟨R, hR⟩ : ∃ R, uintR l a e M = R := ⟨_, rfl⟩
  rw [hR]
  unfold uintR at hR
  have HE0 := Lib.hid (rd_err (l.drop a))
  have HO : Hid ((rd (l.drop a)).2.2 = 0 → (rd (l.drop a)).2.1 ≤ l.length - a) := Lib.hid (fun h0 => by have := (rd_once (h.in8.drop a) h0).2.2.1; rwa [List.length_drop] at this)
  have HL : ∀ w', Below w.heap.size w w' → U8s w' (.slice (moved q c a) (l.length - a) (c - a)) (l.drop a) ∧ In8 (l.drop a) := fun w' hb => left_row (h.below hb)
  have HLh := Lib.hid HL
  obtain ⟨rl, hrl⟩ : ∃ rl, rd (l.drop a) = rl := ⟨_, rfl⟩
  have HRL := Lib.hid hrl
  have hf : ∀ w', Below w.heap.size w w' → Calls Tryz.prog 100 #[.slice (moved q c a) (l.length - a) (c - a)] w' (fun ev w2 => ∃ V S : Int, ev = .returned (.tuple #[.int .u64 V, .int .i64 S, .int .i64 rl.2.2]) ∧ w' = w2 ∧ 0 ≤ V ∧ V ≤ 18446744073709551615 ∧ 0 ≤ S ∧ S ≤ 10 ∧ (rl.2.2 = 0 → V = rl.1 ∧ S = rl.2.1)) := fun w' hb => by
    obtain ⟨h1, h2⟩ := HL w' hb
    have := first_any _ _ w' h1 h2
    unfold FirstPost at this
    rw [hrl] at this
    exact this
  rw [hrl] at hR HE0 HO
  have HF := Lib.hid hf
  have HR := Lib.hid hR
  have hlen := h.few
  have hle := h.le
  have H := Lib.hid h
  clear hR hrl HL hf h HLh HRL
  obtain ⟨A, sz, E⟩ := rl
  simp only at HE0 HO HF HR
  go_enter Tryz.func83, Tryz.ntmps83
  go_wp2_with fail
  refine (left_any H.out).mono ?_
  rintro ev w1 ⟨rfl, hb⟩
  have H1 := Lib.hid (H.out.below hb)
  have B1 := Lib.hid (But.of_below (b := b) hb)
  have hb1 := Lib.hid hb
  clear hb
  go_wp2_with fail
  refine (HF.out _ hb1.out).mono ?_
  rintro ev w2 ⟨V, S, rfl, rfl, v0, v1, s0, s1, hv⟩
  have HV := Lib.hid hv
  clear hv
  by_cases hE : E = 0
  · subst hE
    obtain ⟨rfl, rfl⟩ := HV.out rfl
    have hsz := HO.out rfl
    by_cases hM : M < V
    · have HRR : Hid (R = (0, a, if e = 0 then 8 else e)) := Lib.hid (by rw [← HR.out]; by_cases he : e = 0 <;> simp [he, hM])
      go_wp2_with fail
      refine (pass_no H1.out _ 8 (by simp)).mono ?_
      rintro ev w3 ⟨rfl, hb3, h3⟩
      have HP : Hid (UPost .u64 R w lo b l (.returned (.int .u64 0)) w3) := Lib.hid (upost_of HRR.out h3 (B1.out.trans hb3))
      clear hb3 h3
      go_wp2_with fail
      go_ret
      exact HP.out
    · by_cases he : e = 0
      · have HRR : Hid (R = (V, a + sz, 0)) := Lib.hid (by rw [← HR.out]; simp [he, hM])
        subst he
        go_wp2_with fail
        refine (pass_ok H1.out sz (by omega)).mono ?_
        rintro ev w3 ⟨rfl, hb3, h3⟩
        have HP : Hid (UPost .u64 R w lo b l (.returned (.int .u64 V)) w3) := Lib.hid (upost_of HRR.out h3 (B1.out.trans hb3))
        clear hb3 h3
        go_wp2_with fail
        go_ret
        exact HP.out
      · have HRR : Hid (R = (0, a, e)) := Lib.hid (by rw [← HR.out]; simp [he])
        have HE := Lib.hid he
        clear he
        go_wp2_with fail
        refine (pass_no H1.out _ 0 (fun h => HE.out h.1)).mono ?_
        rintro ev w3 ⟨rfl, hb3, h3⟩
        rw [if_neg HE.out] at h3
        have HP : Hid (UPost .u64 R w lo b l (.returned (.int .u64 0)) w3) := Lib.hid (upost_of HRR.out h3 (B1.out.trans hb3))
        clear hb3 h3
        go_wp2_with fail
        go_ret
        exact HP.out
  · have HRR : Hid (R = (0, a, if e = 0 then E else e)) := Lib.hid (by rw [← HR.out]; by_cases he : e = 0 <;> simp [he, hE])
    have hn2 : (E == 0) = false := by simpa using hE
    have HN := Lib.hid hE
    clear hE HO HE0
    go_wp2_with fail
    refine (pass_no H1.out _ E (fun h => HN.out h.2)).mono ?_
    rintro ev w3 ⟨rfl, hb3, h3⟩
    have HP : Hid (UPost .u64 R w lo b l (.returned (.int .u64 0)) w3) := Lib.hid (upost_of HRR.out h3 (B1.out.trans hb3))
    clear hb3 h3
    go_wp2_with fail
    go_ret
    exact HP.out
set_option maxRecDepth 100000 in
set_option maxHeartbeats 1000000 in
theorem int_any {w : World} {lo b c x a : Nat} {q : Option Addr} {l : List Int} {e : Int} (h : RdAt w lo b q c x l a e) (M : Int) :
    Calls Tryz.prog 102 #[.pointer (some ⟨b, 0, none⟩), .int .u64 M] w (UPost .i64 (intR l a e M) w lo b l) := by
  obtain ⟨R, hR⟩ : ∃ R, intR l a e M = R := ⟨_, rfl⟩
  rw [hR]
  unfold intR at hR
  have HE0 := Lib.hid (rd_err (l.drop a))
  have HO : Hid ((rd (l.drop a)).2.2 = 0 → (rd (l.drop a)).2.1 ≤ l.length - a) := Lib.hid (fun h0 => by have := (rd_once (h.in8.drop a) h0).2.2.1; rwa [List.length_drop] at this)
  have HL : ∀ w', Below w.heap.size w w' → U8s w' (.slice (moved q c a) (l.length - a) (c - a)) (l.drop a) ∧ In8 (l.drop a) := fun w' hb => left_row (h.below hb)
  have HLh := Lib.hid HL
  obtain ⟨rl, hrl⟩ : ∃ rl, rd (l.drop a) = rl := ⟨_, rfl⟩
  have HRL := Lib.hid hrl
  have hf : ∀ w', Below w.heap.size w w' → Calls Tryz.prog 100 #[.slice (moved q c a) (l.length - a) (c - a)] w' (fun ev w2 => ∃ V S : Int, ev = .returned (.tuple #[.int .u64 V, .int .i64 S, .int .i64 rl.2.2]) ∧ w' = w2 ∧ 0 ≤ V ∧ V ≤ 18446744073709551615 ∧ 0 ≤ S ∧ S ≤ 10 ∧ (rl.2.2 = 0 → V = rl.1 ∧ S = rl.2.1)) := fun w' hb => by
    obtain ⟨h1, h2⟩ := HL w' hb
    have := first_any _ _ w' h1 h2
    unfold FirstPost at this
    rw [hrl] at this
    exact this
  rw [hrl] at hR HE0 HO
  have HF := Lib.hid hf
  have HR := Lib.hid hR
  have hlen := h.few
  have hle := h.le
  have H := Lib.hid h
  clear hR hrl HL hf h HLh HRL
  obtain ⟨A, sz, E⟩ := rl
  simp only at HE0 HO HF HR
  go_enter Tryz.func102, Tryz.ntmps102
  go_wp2_with fail
  refine (left_any H.out).mono ?_
  rintro ev w1 ⟨rfl, hb⟩
  have H1 := Lib.hid (H.out.below hb)
  have B1 := Lib.hid (But.of_below (b := b) hb)
  have hb1 := Lib.hid hb
  clear hb
  go_wp2_with fail
  refine (HF.out _ hb1.out).mono ?_
  rintro ev w2 ⟨V, S, rfl, rfl, v0, v1, s0, s1, hv⟩
  have HV := Lib.hid hv
  clear hv
  by_cases hE : E = 0
  · subst hE
    obtain ⟨rfl, rfl⟩ := HV.out rfl
    have hsz := HO.out rfl
    obtain ⟨t0, t1⟩ := amtZ_in v0 v1
    obtain ⟨z0, z1⟩ := unfZ_in v0 v1
    have HAM := Lib.hid (fun w' : World => amount_any V w' v0 v1)
    have HUN := Lib.hid (fun w' : World => unfold_any V w' v0 v1)
    obtain ⟨T, hT⟩ : ∃ T, amtZ V = T := ⟨_, rfl⟩
    obtain ⟨Z, hZ⟩ : ∃ Z, unfZ V = Z := ⟨_, rfl⟩
    rw [hT] at HAM HR t0 t1
    rw [hZ] at HUN HR z0 z1
    clear hT hZ
    by_cases hM : M < T
    · have HRR : Hid (R = (0, a, if e = 0 then 8 else e)) := Lib.hid (by rw [← HR.out]; by_cases he : e = 0 <;> simp [he, hM])
      go_wp2_with fail
      refine (HAM.out _).mono ?_
      rintro ev w9 ⟨rfl, rfl⟩
      go_wp2_with fail
      refine (pass_no H1.out _ 8 (by simp)).mono ?_
      rintro ev w3 ⟨rfl, hb3, h3⟩
      have HP : Hid (UPost .i64 R w lo b l (.returned (.int .i64 0)) w3) := Lib.hid (upost_of HRR.out h3 (B1.out.trans hb3))
      clear hb3 h3
      go_wp2_with fail
      go_ret
      exact HP.out
    · by_cases he : e = 0
      · have HRR : Hid (R = (Z, a + sz, 0)) := Lib.hid (by rw [← HR.out]; simp [he, hM])
        subst he
        go_wp2_with fail
        refine (HAM.out _).mono ?_
        rintro ev w9 ⟨rfl, rfl⟩
        go_wp2_with fail
        refine (pass_ok H1.out sz (by omega)).mono ?_
        rintro ev w3 ⟨rfl, hb3, h3⟩
        have HP : Hid (UPost .i64 R w lo b l (.returned (.int .i64 Z)) w3) := Lib.hid (upost_of HRR.out h3 (B1.out.trans hb3))
        clear hb3 h3
        go_wp2_with fail
        refine (HUN.out _).mono ?_
        rintro ev w9 ⟨rfl, rfl⟩
        go_wp2_with fail
        go_ret
        exact HP.out
      · have HRR : Hid (R = (0, a, e)) := Lib.hid (by rw [← HR.out]; simp [he])
        have HE := Lib.hid he
        clear he
        go_wp2_with fail
        refine (HAM.out _).mono ?_
        rintro ev w9 ⟨rfl, rfl⟩
        go_wp2_with fail
        refine (pass_no H1.out _ 0 (fun h => HE.out h.1)).mono ?_
        rintro ev w3 ⟨rfl, hb3, h3⟩
        rw [if_neg HE.out] at h3
        have HP : Hid (UPost .i64 R w lo b l (.returned (.int .i64 0)) w3) := Lib.hid (upost_of HRR.out h3 (B1.out.trans hb3))
        clear hb3 h3
        go_wp2_with fail
        go_ret
        exact HP.out
  · have HRR : Hid (R = (0, a, if e = 0 then E else e)) := Lib.hid (by rw [← HR.out]; by_cases he : e = 0 <;> simp [he, hE])
    have hn2 : (E == 0) = false := by simpa using hE
    have HN := Lib.hid hE
    clear hE HO HE0
    go_wp2_with fail
    refine (pass_no H1.out _ E (fun h => HN.out h.2)).mono ?_
    rintro ev w3 ⟨rfl, hb3, h3⟩
    have HP : Hid (UPost .i64 R w lo b l (.returned (.int .i64 0)) w3) := Lib.hid (upost_of HRR.out h3 (B1.out.trans hb3))
    clear hb3 h3
    go_wp2_with fail
    go_ret
    exact HP.out

def BPost (R : List Int × Nat × Int) (w : World) (lo b : Nat) (l : List Int) (ev : Ending) (w' : World) : Prop :=
  ∃ v, ev = .returned v ∧ U8s w' v R.1 ∧ RdV w' lo b l R.2.1 R.2.2 ∧ But b w w'
end Go.Proofs.YtjapdbegfanfiaaGreatDoor

/-
  Sums of bytes, the program's and the document's.
-/
namespace Go.Proofs.YtjapdbegfanfiaaGreatDoor
open Go.RowKit

/-- Four bytes were told. -/
theorem sum_post (l : List Int) (A C a0 a1 c0 c1 : Int) (w : World) (hS : sumP (0, 0) l = (A, C)) (e0 : A % 256 = a0) (e1 : A / 256 = a1) (e2 : C % 256 = c0) (e3 : C / 256 = c1) :
    RowPost8 (sumB l) w (.returned (.slice (some ⟨w.heap.size, 0, none⟩) 4 4)) (w.alloc (.cells #[.int .u8 a0, .int .u8 a1, .int .u8 c0, .int .u8 c1] 5)) := by
  have e : sumB l = [a0, a1, c0, c1] := by unfold sumB; rw [hS, e0, e1, e2, e3]
  rw [e]
  exact ⟨_, _, rfl, U8at.lit w [a0, a1, c0, c1] (by simp) _ rfl, Or.inr (Nat.le_refl _), below_new8 _⟩
theorem sum_step {l : List Int} {k : Nat} (hk : k < l.length) {A C : Int} (h : sumP (0, 0) (l.take k) = (A, C)) : sumP (0, 0) (l.take (k + 1)) = ((A + l[k]) % 257, (C + (A + l[k]) % 257) % 257) := by
  rw [List.take_succ_eq_append_getElem hk, sumP_snoc, h]
theorem sum_in {l : List Int} {A C : Int} (h : sumP (0, 0) l = (A, C)) : (0 ≤ A ∧ A ≤ 256) ∧ (0 ≤ C ∧ C ≤ 256) := by
  have := sumP_in l (0, 0) (by simp)
  rw [h] at this
  exact this

theorem wsum_none (p : Option Addr) (c : Nat) (w : World) : Calls Tryz.prog 42 #[.slice p 0 c] w (RowPost8 (sumB []) w) := by
  go_enter Tryz.func42, Tryz.ntmps42
  go_wp2
  refine wp_loop_rounds 1 ?_
  rw [rounds_succ]
  go_wp2
  go_ret
  exact sum_post [] 0 0 0 0 0 0 w rfl rfl rfl rfl rfl
set_option maxRecDepth 100000 in
set_option maxHeartbeats 1000000 in
theorem wsum_some (b o c : Nat) (l : List Int) (w : World) (hl : l.length ≤ 9223372036854775807) (hc : ∀ i (h : i < l.length), w.cell? ⟨b, o + i, none⟩ = some (.int .u8 l[i])) (hin : In8 l) :
    Calls Tryz.prog 42 #[.slice (some ⟨b, o, none⟩) l.length c] w (RowPost8 (sumB l) w) := by
  have HC := Lib.hid hc
  clear hc
  go_enter Tryz.func42, Tryz.ntmps42
  go_wp2
  go_loop [3, 4, 9] (fun a c i => ∃ (k : Nat) (A C : Int), k ≤ l.length ∧ i = .int .i64 k ∧ a = .int .i64 A ∧ c = .int .i64 C ∧ Hid (sumP (0, 0) (l.take k) = (A, C))) (fun _ _ i => l.length - (intOf i).toNat)
  case atStart => exact ⟨0, 0, 0, Nat.zero_le _, rfl, rfl, rfl, Lib.hid rfl⟩
  case round =>
    obtain ⟨k, A, C, hk, rfl, rfl, rfl, HS⟩ := hrel
    obtain ⟨⟨a0, a1⟩, c0, c1⟩ := sum_in HS.out
    by_cases hlt : k < l.length
    · have g := HC.out k hlt
      obtain ⟨x0, x1⟩ := hin _ (List.getElem_mem hlt)
      have HT := Lib.hid (sum_step hlt HS.out)
      obtain ⟨X, hX⟩ : ∃ X, l[k] = X := ⟨_, rfl⟩
      rw [hX] at g x0 x1 HT
      obtain ⟨A', hA⟩ : ∃ A', (A + X) % 257 = A' := ⟨_, rfl⟩
      obtain ⟨C', hC⟩ : ∃ C', (C + A') % 257 = C' := ⟨_, rfl⟩
      rw [hA, hC] at HT
      have q0 : (A + X).tmod 257 = A' := (Int.tmod_eq_emod_of_nonneg (by omega)).trans hA
      have q1 : (C + A').tmod 257 = C' := (Int.tmod_eq_emod_of_nonneg (by omega)).trans hC
      have q2 : 0 ≤ A' ∧ A' ≤ 256 := by omega
      obtain ⟨q3, q4⟩ := q2
      clear HS hX
      go_wp2
      go_round
      case rel => exact ⟨k + 1, A', C', by omega, by go_num, rfl, rfl, HT⟩
      case measure => simp [intOf]; omega
    · obtain rfl : k = l.length := by omega
      have HS' : Hid (sumP (0, 0) l = (A, C)) := Lib.hid (by have := HS.out; rwa [List.take_length] at this)
      obtain ⟨d0, hd0⟩ : ∃ X, A % 256 = X := ⟨_, rfl⟩
      obtain ⟨d1, hd1⟩ : ∃ X, A / 256 = X := ⟨_, rfl⟩
      obtain ⟨d2, hd2⟩ : ∃ X, C % 256 = X := ⟨_, rfl⟩
      obtain ⟨d3, hd3⟩ : ∃ X, C / 256 = X := ⟨_, rfl⟩
      have HD := Lib.hid (sum_post l A C d0 d1 d2 d3 w HS'.out hd0 hd1 hd2 hd3)
      have q0 : 0 ≤ d1 ∧ d1 ≤ 1 := by omega
      have q1 : 0 ≤ d3 ∧ d3 ≤ 1 := by omega
      have q2 : d1 % 256 = d1 := by omega
      have q3 : d3 % 256 = d3 := by omega
      clear HS HS'
      go_wp2
      go_ret
      exact HD.out
theorem wsum_any (v : Value) (l : List Int) (w : World) (h : U8s w v l) (hin : In8 l) : Calls Tryz.prog 42 #[v] w (RowPost8 (sumB l) w) := by
  obtain ⟨x, h⟩ := h
  rcases h with ⟨rfl, p, c, rfl, -⟩ | ⟨hl, o, c, -, -, rfl, -, hc⟩
  · exact wsum_none p c w
  · exact wsum_some x o c l w hl hc hin

theorem rsum8_none (p : Option Addr) (c : Nat) (w : World) : Calls Tryz.prog 20 #[.slice p 0 c] w (RowPost8 (sumB []) w) := by
  go_enter Tryz.func20, Tryz.ntmps20
  go_wp2
  refine wp_loop_rounds 1 ?_
  rw [rounds_succ]
  go_wp2
  go_ret
  exact sum_post [] 0 0 0 0 0 0 w rfl rfl rfl rfl rfl
set_option maxRecDepth 100000 in
set_option maxHeartbeats 1000000 in
theorem rsum8_some (b o c : Nat) (l : List Int) (w : World) (hl : l.length ≤ 9223372036854775807) (hc : ∀ i (h : i < l.length), w.cell? ⟨b, o + i, none⟩ = some (.int .u8 l[i])) (hin : In8 l) :
    Calls Tryz.prog 20 #[.slice (some ⟨b, o, none⟩) l.length c] w (RowPost8 (sumB l) w) := by
  have HC := Lib.hid hc
  clear hc
  go_enter Tryz.func20, Tryz.ntmps20
  go_wp2
  go_loop [3, 4, 5] (fun a c i => ∃ (k : Nat) (A C : Int), k ≤ l.length ∧ i = .int .i64 k ∧ a = .int .i64 A ∧ c = .int .i64 C ∧ Hid (sumP (0, 0) (l.take k) = (A, C))) (fun _ _ i => l.length - (intOf i).toNat)
  case atStart => exact ⟨0, 0, 0, Nat.zero_le _, rfl, rfl, rfl, Lib.hid rfl⟩
  case round =>
    obtain ⟨k, A, C, hk, rfl, rfl, rfl, HS⟩ := hrel
    obtain ⟨⟨a0, a1⟩, c0, c1⟩ := sum_in HS.out
    by_cases hlt : k < l.length
    · have g := HC.out k hlt
      obtain ⟨x0, x1⟩ := hin _ (List.getElem_mem hlt)
      have HT := Lib.hid (sum_step hlt HS.out)
      obtain ⟨X, hX⟩ : ∃ X, l[k] = X := ⟨_, rfl⟩
      rw [hX] at g x0 x1 HT
      obtain ⟨A', hA⟩ : ∃ A', (A + X) % 257 = A' := ⟨_, rfl⟩
      obtain ⟨C', hC⟩ : ∃ C', (C + A') % 257 = C' := ⟨_, rfl⟩
      rw [hA, hC] at HT
      have q0 : (A + X).tmod 257 = A' := (Int.tmod_eq_emod_of_nonneg (by omega)).trans hA
      have q1 : (C + A').tmod 257 = C' := (Int.tmod_eq_emod_of_nonneg (by omega)).trans hC
      have q2 : 0 ≤ A' ∧ A' ≤ 256 := by omega
      obtain ⟨q3, q4⟩ := q2
      clear HS hX
      go_wp2
      go_round
      case rel => exact ⟨k + 1, A', C', by omega, by go_num, rfl, rfl, HT⟩
      case measure => simp [intOf]; omega
    · obtain rfl : k = l.length := by omega
      have HS' : Hid (sumP (0, 0) l = (A, C)) := Lib.hid (by have := HS.out; rwa [List.take_length] at this)
      obtain ⟨d0, hd0⟩ : ∃ X, A % 256 = X := ⟨_, rfl⟩
      obtain ⟨d1, hd1⟩ : ∃ X, A / 256 = X := ⟨_, rfl⟩
      obtain ⟨d2, hd2⟩ : ∃ X, C % 256 = X := ⟨_, rfl⟩
      obtain ⟨d3, hd3⟩ : ∃ X, C / 256 = X := ⟨_, rfl⟩
      have HD := Lib.hid (sum_post l A C d0 d1 d2 d3 w HS'.out hd0 hd1 hd2 hd3)
      have q0 : 0 ≤ d0 ∧ d0 ≤ 255 := by omega
      have q1 : 0 ≤ d1 ∧ d1 ≤ 1 := by omega
      have q2 : 0 ≤ d2 ∧ d2 ≤ 255 := by omega
      have q3 : 0 ≤ d3 ∧ d3 ≤ 1 := by omega
      have r0 : A.tmod 256 = d0 := (Int.tmod_eq_emod_of_nonneg a0).trans hd0
      have r1 : A.tdiv 256 = d1 := (Int.tdiv_eq_ediv_of_nonneg a0).trans hd1
      have r2 : C.tmod 256 = d2 := (Int.tmod_eq_emod_of_nonneg c0).trans hd2
      have r3 : C.tdiv 256 = d3 := (Int.tdiv_eq_ediv_of_nonneg c0).trans hd3
      have s0 : d0 % 256 = d0 := by omega
      have s1 : d1 % 256 = d1 := by omega
      have s2 : d2 % 256 = d2 := by omega
      have s3 : d3 % 256 = d3 := by omega
      clear HS HS'
      go_wp2
      go_ret
      exact HD.out
theorem rsum8_any (v : Value) (l : List Int) (w : World) (h : U8s w v l) (hin : In8 l) : Calls Tryz.prog 20 #[v] w (RowPost8 (sumB l) w) := by
  obtain ⟨x, h⟩ := h
  rcases h with ⟨rfl, p, c, rfl, -⟩ | ⟨hl, o, c, -, -, rfl, -, hc⟩
  · exact rsum8_none p c w
  · exact rsum8_some x o c l w hl hc hin

end Go.Proofs.YtjapdbegfanfiaaGreatDoor
