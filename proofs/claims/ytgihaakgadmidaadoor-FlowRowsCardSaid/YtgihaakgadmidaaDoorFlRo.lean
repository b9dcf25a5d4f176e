/-
  Rows of edges, side by side: how many go over them.
-/
import Derived.Test.YtgihaakgadmidaaDoorFlAp
import Derived.Test.YtgihaakgadmidaaDoorFlLm
namespace Go.Proofs.YtgihaakgadmidaaDoor
open Go.RowKit

theorem b1_nn (b : Bool) : 0 ≤ b1 b ∧ b1 b ≤ 1 := by cases b <;> decide
/-- Whole rows alone. -/
structure OtQ (N : Nat) (E : Edg) (V : Int) : Prop where
  two : 2 ≤ N
  ein : EdgIn N E
  lo : ∀ S : VSet, S 0 = true → S 1 = false → V ≤ crossS S E
  hi : ∃ T : VSet, T 0 = true ∧ T 1 = false ∧ crossS T E = V
/-- .. and one that has come to a vertex: whole so far, or not. -/
structure RwQ (N : Nat) (E : Edg) (V : Int) (a : Nat) (live : Bool) : Prop where
  two : 2 ≤ N
  ein : EdgIn N E
  aN : a < N
  lo : ∀ S : VSet, S 0 = true → S 1 = false → V + (if live then b1 (!S a) else 0) ≤ crossS S E
  hi : ∃ T : VSet, T 0 = true ∧ T 1 = false ∧ (a ≠ 1 → T a = live) ∧ crossS T E = V + (if live then b1 (!T a) else 0)
theorem OtQ.nil : OtQ 2 [] 0 := ⟨Nat.le_refl _, fun i hi => by simp at hi, fun S _ _ => Int.le_refl _, ⟨fun v => decide (v = 0), rfl, rfl, rfl⟩⟩
theorem OtQ.start {N : Nat} {E : Edg} {V : Int} (h : OtQ N E V) : RwQ N E V 0 true := by
  refine ⟨h.two, h.ein, by have := h.two; omega, fun S h0 h1 => ?_, ?_⟩
  · rw [h0]
    have := h.lo S h0 h1
    simp [b1]
    exact this
  · obtain ⟨T, t0, t1, t2⟩ := h.hi
    exact ⟨T, t0, t1, fun _ => t0, by rw [t2, t0]; simp [b1]⟩
theorem RwQ.done {N : Nat} {E : Edg} {V : Int} {live : Bool} (h : RwQ N E V 1 live) : OtQ N E (V + if live then 1 else 0) := by
  refine ⟨h.two, h.ein, fun S h0 h1 => ?_, ?_⟩
  · have := h.lo S h0 h1
    rw [h1] at this
    cases live <;> simpa [b1] using this
  · obtain ⟨T, t0, t1, -, t2⟩ := h.hi
    refine ⟨T, t0, t1, ?_⟩
    rw [t2, t1]
    cases live <;> simp [b1]
theorem eL_mono {N M : Nat} {E : Edg} (h : EdgIn N E) (hm : N ≤ M) : EdgIn M E := fun i hi => ⟨Nat.lt_of_lt_of_le (h i hi).1 hm, Nat.lt_of_lt_of_le (h i hi).2 hm⟩
theorem cross_same {N : Nat} {E : Edg} {S T : VSet} (h : EdgIn N E) (e : ∀ v, v < N → S v = T v) : crossS S E = crossS T E := by
  unfold crossS
  exact sumN_congr fun i hi => by rw [e _ (h i hi).1, e _ (h i hi).2]
section
variable {N : Nat} {E : Edg} {V : Int} {a : Nat} {live : Bool}
theorem lo_edge {S : VSet} {to : Nat} (h : V + (if live then b1 (!S a) else 0) ≤ crossS S E) : V + (if live then b1 (!S to) else 0) ≤ crossS S (E ++ [(a, to)]) := by
  rw [crossS_app, crossS_one]
  have := (b1_nn (S a != S to)).1
  cases live
  · simp at h ⊢
    omega
  · simp only [if_true] at h ⊢
    have : b1 (!S to) ≤ b1 (!S a) + b1 (S a != S to) := by cases S a <;> cases S to <;> decide
    omega
/-- An edge to a vertex that is new. -/
theorem RwQ.fresh (h : RwQ N E V a live) (ha : a ≠ 1) : RwQ (N + 1) (E ++ [(a, N)]) V N live := by
  have h2 := h.two
  have haN := h.aN
  refine ⟨by omega, edgIn_app (eL_mono h.ein (Nat.le_succ _)) (edgIn_one (by omega) (by omega)), by omega, fun S h0 h1 => lo_edge (h.lo S h0 h1), ?_⟩
  obtain ⟨T, t0, t1, t2, t3⟩ := h.hi
  obtain ⟨U, u1, u2⟩ : ∃ U : VSet, (∀ v, v ≠ N → U v = T v) ∧ U N = live := ⟨fun v => if v = N then live else T v, fun v hv => if_neg hv, if_pos rfl⟩
  refine ⟨U, (u1 0 (by omega)).trans t0, (u1 1 (by omega)).trans t1, fun _ => u2, ?_⟩
  rw [crossS_app, crossS_one, cross_same (T := T) h.ein (fun v hv => u1 v (by omega)), t3, u2, u1 a (by omega), t2 ha]
  cases live <;> simp [b1]
/-- .. to the end. -/
theorem RwQ.last (h : RwQ N E V a live) (ha : a ≠ 1) : RwQ N (E ++ [(a, 1)]) V 1 live := by
  have h2 := h.two
  refine ⟨h2, edgIn_app h.ein (edgIn_one h.aN (by omega)), by omega, fun S h0 h1 => lo_edge (h.lo S h0 h1), ?_⟩
  obtain ⟨T, t0, t1, t2, t3⟩ := h.hi
  refine ⟨T, t0, t1, fun e => absurd rfl e, ?_⟩
  rw [crossS_app, crossS_one, t3, t1, t2 ha]
  cases live <;> simp [b1]
/-- An edge left out. -/
theorem RwQ.cut (h : RwQ N E V a true) (ha : a ≠ 1) : RwQ (N + 1) E V N false := by
  have h2 := h.two
  refine ⟨by omega, eL_mono h.ein (Nat.le_succ _), by omega, fun S h0 h1 => ?_, ?_⟩
  · have := h.lo S h0 h1
    have := (b1_nn (!S a)).1
    simp at *
    omega
  · obtain ⟨T, t0, t1, t2, t3⟩ := h.hi
    obtain ⟨U, u1, u2⟩ : ∃ U : VSet, (∀ v, v ≠ N → U v = T v) ∧ U N = false := ⟨fun v => if v = N then false else T v, fun v hv => if_neg hv, if_pos rfl⟩
    refine ⟨U, (u1 0 (by omega)).trans t0, (u1 1 (by omega)).trans t1, fun _ => u2, ?_⟩
    rw [cross_same (T := T) h.ein (fun v hv => u1 v (by omega)), t3, t2 ha]
    simp [b1]
theorem RwQ.cutlast (h : RwQ N E V a true) (ha : a ≠ 1) : RwQ N E V 1 false := by
  have h2 := h.two
  refine ⟨h2, h.ein, by omega, fun S h0 h1 => ?_, ?_⟩
  · have := h.lo S h0 h1
    have := (b1_nn (!S a)).1
    simp at *
    omega
  · obtain ⟨T, t0, t1, t2, t3⟩ := h.hi
    refine ⟨T, t0, t1, fun e => absurd rfl e, ?_⟩
    rw [t3, t2 ha]
    simp [b1]
end
theorem mark01 {N : Nat} (_ : 2 ≤ N) {S : VSet} (h0 : S 0 = true) (h1 : S 1 = false) : IsCut N (setB (markL N [0])) (setB (markL N [1, 1])) S := by
  refine ⟨fun v hv ha => ?_, fun v hv hb => ?_⟩
  · rw [markL_in hv] at ha
    simp at ha
    subst ha
    exact h0
  · rw [markL_in hv] at hb
    simp at hb
    subst hb
    exact h1
theorem OtQ.max {N : Nat} {E : Edg} {V X : Int} {near far : VSet} (h : OtQ N E V) (k : MaxQ N E (setB (markL N [0])) (setB (markL N [1, 1])) X near far) : X = V := by
  have h2 := h.two
  obtain ⟨T, t0, t1, t2⟩ := h.hi
  have a := k.least T (mark01 h2 t0 t1)
  have b := h.lo near (k.nearC.has 0 (by omega) (by rw [markL_in (by omega)]; decide)) (k.nearC.none 1 (by omega) (by rw [markL_in (by omega)]; decide))
  rw [k.nearV] at b
  omega
theorem twice01 : ¬ Twice (zN [0]) (zN [1, 1]) := by
  rintro ⟨x, h1, h2⟩
  simp [zN] at h1 h2
  omega
theorem twice01' : ¬ Twice (zN [0]) (zN [1]) := by
  rintro ⟨x, h1, h2⟩
  simp [zN] at h1 h2
  omega
theorem in0 {N : Nat} (h : 2 ≤ N) : ∀ x, x ∈ [0] → x < N := fun x hx => by simp at hx; omega
theorem in11 {N : Nat} (h : 2 ≤ N) : ∀ x, x ∈ [1, 1] → x < N := fun x hx => by simp at hx; omega
theorem in1 {N : Nat} (h : 2 ≤ N) : ∀ x, x ∈ [1] → x < N := fun x hx => by simp at hx; omega
/-- Twice the same is once. -/
theorem PrvQ.once {N : Nat} {E : Edg} {V : Int} {f : List Int} {near far : List Bool} (h : PrvQ N E [0] [1, 1] V f near far) : PrvQ N E [0] [1] V f near far := by
  have e : markL N [1, 1] = markL N [1] := by simp [markL]
  obtain ⟨h1, h2, h3, h4, h5, h6, h7⟩ := h
  rw [e] at h1 h6
  exact ⟨h1, h2, h3, h4, h5, h6, fun v hv => h7 v (by simpa using hv)⟩
theorem two_i64s {w : World} {g : Nat} {x y : Int} (h : Blk w g #[.int .i64 x, .int .i64 y] 3) : I64s w (.slice (some ⟨g, 0, none⟩) 2 2) [x, y] := by
  refine Or.inr ⟨by simp, g, 0, 2, by simp, by decide, rfl, fun i hi => ?_⟩
  rw [Nat.zero_add]
  have hi' : i < 2 := hi
  match i, hi' with
  | 0, _ => exact h.cell 0 rfl
  | 1, _ => exact h.cell 1 rfl
/-- The loops' heads. -/
structure RowsAt (W : World) (N : Nat) (E : Edg) (ev : Value) (wr : World) : Prop where
  r : wr.ownsRow W.heap.size 43 2 ev (zE E).length (flatP (zE E))
  b : Below W.heap.size W wr
def OutRel (W : World) (K : Nat) (ev nv wv iv : Value) (wr : World) : Prop := ∃ (N : Nat) (E : Edg) (V i : Nat), i ≤ K ∧ nv = .int .i64 N ∧ wv = .int .i64 V ∧ iv = .int .i64 i ∧ N ≤ 2 + 8 * i ∧ E.length ≤ 8 * i ∧ V ≤ i ∧ OtQ N E V ∧ RowsAt W N E ev wr
def InRel (W : World) (i M : Nat) (V : Int) (wh : Bool) (ev nv av jv : Value) (wr : World) : Prop := ∃ (N : Nat) (E : Edg) (a j : Nat), j ≤ M ∧ nv = .int .i64 N ∧ av = .int .i64 a ∧ jv = .int .i64 j ∧ N ≤ 2 + 8 * i + j ∧ E.length ≤ 8 * i + j ∧ RwQ N E V a (wh || decide (j ≤ M / 2)) ∧ (j < M → a ≠ 1) ∧ (j = M → a = 1) ∧ RowsAt W N E ev wr
theorem RowsAt.app {W w w' : World} {N : Nat} {E : Edg} {ev : Value} (h : RowsAt W N E ev w) (hb : Below w.heap.size w w') {a c : Nat} {g M : Nat} (hg : Blk w' g #[.int .i64 (a : Int), .int .i64 (c : Int)] 43) (hl : E.length ≤ 1000) :
    ∃ q n c' w'', (Builtin.append_ #[22, 22] 22 #[ev, .slice (some ⟨g, 0, none⟩) 1 1]).run Tryd.prog w' = .ok (.slice q n c') w'' ∧ RowsAt W M (E ++ [(a, c)]) (.slice q n c') w'' := by
  have h1 := own_below h.r hb
  have h2 := bOn6 h.b hb
  obtain ⟨q, c', w'', hr, ho, hb'⟩ := appP (l := zE E) (news := [((a : Int), (c : Int))]) h1 hg (by rw [zE_len]; omega) (by simp) h2.size
  refine ⟨q, _, c', w'', hr, ⟨?_, h2.trans hb'⟩⟩
  rw [zE_app]
  exact ho
end Go.Proofs.YtgihaakgadmidaaDoor
