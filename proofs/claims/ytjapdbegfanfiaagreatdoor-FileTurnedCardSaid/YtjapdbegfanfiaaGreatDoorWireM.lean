/-
  Plain mathematics of numbers in bytes: told, read, folded, one behind the other, cut off. No program stands here.
-/
import Derived.WalkKit
namespace Go.Proofs.YtjapdbegfanfiaaGreatDoor

/-- All of them are bytes. -/
def In8 (l : List Int) : Prop := ∀ x ∈ l, 0 ≤ x ∧ x ≤ 255
theorem In8.nil : In8 [] := fun _ h => by cases h
theorem In8.cons {x : Int} {l : List Int} (h : 0 ≤ x ∧ x ≤ 255) (k : In8 l) : In8 (x :: l) := fun y hy => by
  rcases List.mem_cons.1 hy with rfl | hy
  · exact h
  · exact k y hy
theorem In8.append {l m : List Int} (h : In8 l) (k : In8 m) : In8 (l ++ m) := fun y hy => by
  rcases List.mem_append.1 hy with hy | hy
  · exact h y hy
  · exact k y hy
theorem In8.take {l : List Int} (h : In8 l) (k : Nat) : In8 (l.take k) := fun y hy => h y (List.mem_of_mem_take hy)
theorem In8.drop {l : List Int} (h : In8 l) (k : Nat) : In8 (l.drop k) := fun y hy => h y (List.mem_of_mem_drop hy)
theorem In8.at {l : List Int} (h : In8 l) (k : Nat) (hk : k < l.length) : 0 ≤ l[k] ∧ l[k] ≤ 255 := h _ (List.getElem_mem hk)

/-- A number in bytes, seven bits a byte; of no more than k + 1 bytes. -/
def encF : Nat → Int → List Int
  | 0, v => [v]
  | k + 1, v => if v < 128 then [v] else (v % 128 + 128) :: encF k (v / 128)
/-- What k + 1 bytes can tell, the last of ten of one bit. -/
def lim : Nat → Int
  | 0 => 2
  | k + 1 => 128 * lim k
def enc (v : Int) : List Int := encF 9 v
theorem lim9 : lim 9 = 18446744073709551616 := by decide
theorem lim_pos : ∀ k, 2 ≤ lim k
  | 0 => by simp [lim]
  | k + 1 => by have := lim_pos k; simp only [lim]; omega
theorem encF_small {k : Nat} {v : Int} (h : v < 128) : encF k v = [v] := by cases k <;> simp [encF, h]
theorem encF_big {k : Nat} {v : Int} (h : ¬ v < 128) : encF (k + 1) v = (v % 128 + 128) :: encF k (v / 128) := by simp [encF, h]
theorem encF_pos (k : Nat) (v : Int) : 1 ≤ (encF k v).length := by
  cases k with
  | zero => simp [encF]
  | succ k => by_cases h : v < 128 <;> simp [encF, h]
theorem encF_len : ∀ (k : Nat) (v : Int), (encF k v).length ≤ k + 1
  | 0, v => by simp [encF]
  | k + 1, v => by
    by_cases h : v < 128
    · simp [encF, h]
    · have := encF_len k (v / 128)
      simp only [encF, h, if_false, List.length_cons]
      omega
theorem encF_in8 : ∀ (k : Nat) (v : Int), 0 ≤ v → v < lim k → In8 (encF k v)
  | 0, v, h0, h => by
    simp only [lim] at h
    exact In8.cons (by omega) In8.nil
  | k + 1, v, h0, h => by
    by_cases hv : v < 128
    · rw [encF_small hv]
      exact In8.cons (by omega) In8.nil
    · rw [encF_big hv]
      simp only [lim] at h
      exact In8.cons (by omega) (encF_in8 k (v / 128) (by omega) (by omega))
theorem enc_in8 {v : Int} (h0 : 0 ≤ v) (h : v ≤ 18446744073709551615) : In8 (enc v) := encF_in8 9 v h0 (by rw [lim9]; omega)
theorem enc_len (v : Int) : (enc v).length ≤ 10 := encF_len 9 v
theorem enc_pos (v : Int) : 1 ≤ (enc v).length := encF_pos 9 v

/-- What bytes begin with, as a number, of how many bytes it is, and what is wrong with it: n bytes at most; b: is it the first byte? -/
def rdF : Nat → Bool → List Int → Int × Nat × Int
  | 0, _, _ => (0, 0, 2)
  | _ + 1, _, [] => (0, 0, 3)
  | n + 1, b, c :: r =>
    if c < 128 then (c, 1, if (b = false ∧ c = 0) ∨ (n = 0 ∧ 1 < c) then 2 else 0)
    else (c - 128 + 128 * (rdF n false r).1, (rdF n false r).2.1 + 1, (rdF n false r).2.2)
def rd (l : List Int) : Int × Nat × Int := rdF 10 true l
theorem rdF_last {n : Nat} {b : Bool} {c : Int} {r : List Int} (h : c < 128) : rdF (n + 1) b (c :: r) = (c, 1, if (b = false ∧ c = 0) ∨ (n = 0 ∧ 1 < c) then 2 else 0) := by simp [rdF, h]
theorem rdF_more {n : Nat} {b : Bool} {c : Int} {r : List Int} (h : ¬ c < 128) : rdF (n + 1) b (c :: r) = (c - 128 + 128 * (rdF n false r).1, (rdF n false r).2.1 + 1, (rdF n false r).2.2) := by simp [rdF, h]
theorem rdF_err : ∀ (n : Nat) (b : Bool) (l : List Int), (rdF n b l).2.2 = 0 ∨ (rdF n b l).2.2 = 2 ∨ (rdF n b l).2.2 = 3
  | 0, _, _ => Or.inr (Or.inl rfl)
  | _ + 1, _, [] => Or.inr (Or.inr rfl)
  | n + 1, b, c :: r => by
    by_cases h : c < 128
    · rw [rdF_last h]
      by_cases k : (b = false ∧ c = 0) ∨ (n = 0 ∧ 1 < c)
      · exact Or.inr (Or.inl (by simp only [if_pos k]))
      · exact Or.inl (by simp only [if_neg k])
    · rw [rdF_more h]
      exact rdF_err n false r

/-- What was told is read. -/
theorem rdF_enc : ∀ (k : Nat) (b : Bool) (v : Int) (t : List Int), 0 ≤ v → v < lim k → (b = true ∨ 1 ≤ v) → rdF (k + 1) b (encF k v ++ t) = (v, (encF k v).length, 0)
  | k, b, v, t, h0, h, hb => by
    by_cases hv : v < 128
    · rw [encF_small hv, List.singleton_append, rdF_last hv, if_neg ?_]
      · rfl
      · rintro (⟨h1, h2⟩ | ⟨h1, h2⟩)
        · rcases hb with hb | hb
          · rw [hb] at h1; cases h1
          · omega
        · subst h1
          simp only [lim] at h
          omega
    · cases k with
      | zero => simp only [lim] at h; omega
      | succ k =>
        simp only [lim] at h
        rw [encF_big hv, List.cons_append, rdF_more (by omega), rdF_enc k false (v / 128) t (by omega) (by omega) (Or.inr (by omega))]
        simp only [List.length_cons, Prod.mk.injEq, and_true]
        omega
theorem rd_enc {v : Int} (h0 : 0 ≤ v) (h : v ≤ 18446744073709551615) (t : List Int) : rd (enc v ++ t) = (v, (enc v).length, 0) := rdF_enc 9 true v t h0 (by rw [lim9]; omega) (Or.inl rfl)
/-- What is cut off ends too early. -/
theorem rdF_cut : ∀ (k : Nat) (b : Bool) (v : Int) (j : Nat), 0 ≤ v → v < lim k → j < (encF k v).length → (rdF (k + 1) b ((encF k v).take j)).2.2 = 3
  | k, b, v, j, h0, h, hj => by
    cases j with
    | zero => rfl
    | succ j =>
      by_cases hv : v < 128
      · rw [encF_small hv] at hj
        simp at hj
      · cases k with
        | zero => simp only [lim] at h; omega
        | succ k =>
          simp only [lim] at h
          rw [encF_big hv] at hj ⊢
          rw [List.take_succ_cons, rdF_more (by omega)]
          exact rdF_cut k false (v / 128) j (by omega) (by omega) (by simpa using hj)
theorem rd_cut {v : Int} (h0 : 0 ≤ v) (h : v ≤ 18446744073709551615) {j : Nat} (hj : j < (enc v).length) : (rd ((enc v).take j)).2.2 = 3 := rdF_cut 9 true v j h0 (by rw [lim9]; omega) hj
/-- What is read is told as it was. -/
theorem rdF_once : ∀ (n : Nat) (b : Bool) (l : List Int), In8 l → (rdF (n + 1) b l).2.2 = 0 →
    0 ≤ (rdF (n + 1) b l).1 ∧ (rdF (n + 1) b l).1 < lim n ∧ (b = true ∨ 1 ≤ (rdF (n + 1) b l).1) ∧ (rdF (n + 1) b l).2.1 ≤ l.length ∧ encF n (rdF (n + 1) b l).1 = l.take (rdF (n + 1) b l).2.1
  | n, b, [], _, h => by simp [rdF] at h
  | n, b, c :: r, hl, h => by
    have hc := hl c (List.mem_cons_self ..)
    have hr : In8 r := fun x hx => hl x (List.mem_cons_of_mem _ hx)
    by_cases hv : c < 128
    · rw [rdF_last hv] at h ⊢
      have hk : ¬ ((b = false ∧ c = 0) ∨ (n = 0 ∧ 1 < c)) := fun hk => by simp only [if_pos hk] at h; omega
      refine ⟨hc.1, ?_, ?_, by simp, by rw [encF_small hv]; rfl⟩
      · cases n with
        | zero => simp only [lim]; have : ¬ 1 < c := fun h1 => hk (Or.inr ⟨rfl, h1⟩); omega
        | succ n => have := lim_pos n; simp only [lim]; omega
      · cases b with
        | true => exact Or.inl rfl
        | false => right; show 1 ≤ c; have : ¬ c = 0 := fun h1 => hk (Or.inl ⟨rfl, h1⟩); omega
    · rw [rdF_more hv] at h ⊢
      cases n with
      | zero => simp [rdF] at h
      | succ n =>
        obtain ⟨h1, h2, h3, h4, h5⟩ := rdF_once n false r hr h
        have h3' : 1 ≤ (rdF (n + 1) false r).1 := by rcases h3 with h3 | h3; cases h3; exact h3
        generalize rdF (n + 1) false r = q at *
        simp only [lim]
        refine ⟨by omega, by omega, Or.inr (by omega), by simp only [List.length_cons]; omega, ?_⟩
        rw [encF_big (by omega), List.take_succ_cons, ← h5]
        congr 1
        · omega
        · congr 1; omega
theorem rd_once {l : List Int} (hl : In8 l) (h : (rd l).2.2 = 0) : 0 ≤ (rd l).1 ∧ (rd l).1 ≤ 18446744073709551615 ∧ (rd l).2.1 ≤ l.length ∧ enc (rd l).1 = l.take (rd l).2.1 := by
  obtain ⟨h1, h2, -, h4, h5⟩ := rdF_once 9 true l hl h
  rw [lim9] at h2
  have h6 : (rd l).1 < 18446744073709551616 := h2
  exact ⟨h1, by omega, h4, h5⟩

/-- Twice v, or, below 0, -1 less twice v. -/
def foldZ (v : Int) : Int := if v < 0 then 0 - 1 - 2 * v else 2 * v
def unfZ (u : Int) : Int := if u % 2 = 1 then 0 - 1 - u / 2 else u / 2
def amtZ (u : Int) : Int := u / 2 + u % 2
theorem foldZ_in {v : Int} (h0 : -9223372036854775808 ≤ v) (h1 : v ≤ 9223372036854775807) : 0 ≤ foldZ v ∧ foldZ v ≤ 18446744073709551615 := by unfold foldZ; split <;> omega
theorem unfZ_foldZ (v : Int) : unfZ (foldZ v) = v := by
  unfold foldZ unfZ
  by_cases h : v < 0
  · rw [if_pos h, if_pos (by omega)]; omega
  · rw [if_neg h, if_neg (by omega)]; omega
theorem foldZ_unfZ {u : Int} (h : 0 ≤ u) : foldZ (unfZ u) = u := by
  unfold foldZ unfZ
  by_cases h2 : u % 2 = 1
  · rw [if_pos h2, if_pos (by omega)]; omega
  · rw [if_neg h2, if_neg (by omega)]; omega
theorem unfZ_in {u : Int} (h0 : 0 ≤ u) (h1 : u ≤ 18446744073709551615) : -9223372036854775808 ≤ unfZ u ∧ unfZ u ≤ 9223372036854775807 := by unfold unfZ; split <;> omega
theorem amtZ_foldZ (v : Int) : amtZ (foldZ v) = if v < 0 then 0 - v else v := by unfold amtZ foldZ; split <;> omega
theorem amtZ_in {u : Int} (h0 : 0 ≤ u) (h1 : u ≤ 18446744073709551615) : 0 ≤ amtZ u ∧ amtZ u ≤ 9223372036854775808 := by unfold amtZ; omega

/-- Numbers in bytes, one behind the other. -/
def encs : List Int → List Int
  | [] => []
  | v :: r => enc v ++ encs r
theorem encs_append : ∀ l m, encs (l ++ m) = encs l ++ encs m
  | [], m => rfl
  | v :: r, m => by simp only [List.cons_append, encs, encs_append r m, List.append_assoc]
theorem encs_snoc (l : List Int) (v : Int) : encs (l ++ [v]) = encs l ++ enc v := by rw [encs_append]; simp [encs]
theorem encs_len : ∀ l, (encs l).length ≤ 10 * l.length
  | [] => by simp [encs]
  | v :: r => by
    have h1 := enc_len v
    have h2 := encs_len r
    simp only [encs, List.length_append, List.length_cons]
    omega
theorem encs_in8 : ∀ {l : List Int}, (∀ v ∈ l, 0 ≤ v ∧ v ≤ 18446744073709551615) → In8 (encs l)
  | [], _ => In8.nil
  | v :: _, h => (enc_in8 (h v (List.mem_cons_self ..)).1 (h v (List.mem_cons_self ..)).2).append (encs_in8 fun x hx => h x (List.mem_cons_of_mem _ hx))
theorem encs_take_len (q : List Int) (i : Nat) : (encs (q.take i)).length ≤ (encs q).length := by
  have := encs_append (q.take i) (q.drop i)
  rw [List.take_append_drop] at this
  rw [this, List.length_append]
  omega
/-- Behind the first i numbers the others stand. -/
theorem encs_drop (q : List Int) (i : Nat) : (encs q).drop (encs (q.take i)).length = encs (q.drop i) := by
  have := encs_append (q.take i) (q.drop i)
  rw [List.take_append_drop] at this
  rw [this, List.drop_left]
theorem encs_at (q : List Int) (i : Nat) (h : i < q.length) : encs (q.drop i) = enc q[i] ++ encs (q.drop (i + 1)) := by rw [List.drop_eq_getElem_cons h]; rfl
theorem encs_next (q : List Int) (i : Nat) (h : i < q.length) : (encs (q.take (i + 1))).length = (encs (q.take i)).length + (enc q[i]).length := by
  rw [List.take_succ_eq_append_getElem h, encs_snoc, List.length_append]
theorem rd_encs {q : List Int} (hq : ∀ v ∈ q, 0 ≤ v ∧ v ≤ 18446744073709551615) {i : Nat} (h : i < q.length) : rd ((encs q).drop (encs (q.take i)).length) = (q[i], (enc q[i]).length, 0) := by
  have h1 := hq _ (List.getElem_mem h)
  rw [encs_drop, encs_at q i h, rd_enc h1.1 h1.2]
/-- What is cut off: where the next number lies whole within it, it is read; where not, it ends too early. -/
theorem rd_cuts {q : List Int} (hq : ∀ v ∈ q, 0 ≤ v ∧ v ≤ 18446744073709551615) {n i : Nat} (h : i < q.length) (hi : (encs (q.take i)).length ≤ n) :
    ((encs (q.take (i + 1))).length ≤ n ∧ rd (((encs q).take n).drop (encs (q.take i)).length) = (q[i], (enc q[i]).length, 0)) ∨ (rd (((encs q).take n).drop (encs (q.take i)).length)).2.2 = 3 := by
  have h1 := hq _ (List.getElem_mem h)
  have h2 := encs_next q i h
  rw [List.drop_take, encs_drop, encs_at q i h]
  by_cases hn : (encs (q.take (i + 1))).length ≤ n
  · left
    refine ⟨hn, ?_⟩
    rw [List.take_append, List.take_of_length_le (by omega), rd_enc h1.1 h1.2]
  · right
    rw [List.take_append_of_le_length (by omega)]
    exact rd_cut h1.1 h1.2 (by omega)

/-- A sum of bytes, and a sum of these sums, from s on. -/
def sumP (s : Int × Int) (l : List Int) : Int × Int := l.foldl (fun s v => ((s.1 + v) % 257, (s.2 + (s.1 + v) % 257) % 257)) s
def sumB (l : List Int) : List Int := [(sumP (0, 0) l).1 % 256, (sumP (0, 0) l).1 / 256, (sumP (0, 0) l).2 % 256, (sumP (0, 0) l).2 / 256]
theorem sumP_snoc (s : Int × Int) (l : List Int) (v : Int) : sumP s (l ++ [v]) = (((sumP s l).1 + v) % 257, ((sumP s l).2 + ((sumP s l).1 + v) % 257) % 257) := by simp [sumP]
theorem sumP_append (s : Int × Int) (l m : List Int) : sumP s (l ++ m) = sumP (sumP s l) m := by simp [sumP]
theorem sumP_in : ∀ (l : List Int) (s : Int × Int), (0 ≤ s.1 ∧ s.1 ≤ 256) ∧ (0 ≤ s.2 ∧ s.2 ≤ 256) → (0 ≤ (sumP s l).1 ∧ (sumP s l).1 ≤ 256) ∧ (0 ≤ (sumP s l).2 ∧ (sumP s l).2 ≤ 256)
  | [], _, h => h
  | v :: r, s, h => sumP_in r _ (by simp only; omega)
theorem sumB_eq {l m : List Int} : sumB l = sumB m ↔ sumP (0, 0) l = sumP (0, 0) m := by
  have h1 := sumP_in l (0, 0) (by simp)
  have h2 := sumP_in m (0, 0) (by simp)
  constructor
  · intro h
    simp only [sumB, List.cons.injEq, and_true] at h
    exact Prod.ext (by omega) (by omega)
  · intro h
    unfold sumB
    rw [h]
theorem sumB_in8 (l : List Int) : In8 (sumB l) := by
  have h1 := sumP_in l (0, 0) (by simp)
  unfold sumB
  exact In8.cons (by omega) (In8.cons (by omega) (In8.cons (by omega) (In8.cons (by omega) In8.nil)))
/-- From unlike first sums on the first sums stay unlike. -/
theorem sumP_apart1 : ∀ (r : List Int) (s t : Int × Int), ¬ (s.1 - t.1) % 257 = 0 → ¬ (sumP s r).1 = (sumP t r).1
  | [], s, t, h => fun e => h (by simp only [sumP, List.foldl_nil] at e; rw [e]; simp)
  | v :: r, s, t, h => sumP_apart1 r _ _ (by simp only; omega)
/-- From like first sums and unlike second ones on the second ones stay unlike. -/
theorem sumP_apart2 : ∀ (r : List Int) (s t : Int × Int), s.1 = t.1 → ¬ (s.2 - t.2) % 257 = 0 → ¬ (sumP s r).2 = (sumP t r).2
  | [], s, t, _, h => fun e => h (by simp only [sumP, List.foldl_nil] at e; rw [e]; simp)
  | v :: r, s, t, h1, h => sumP_apart2 r _ _ (by simp only; rw [h1]) (by simp only; rw [h1]; omega)
theorem set_split {l : List Int} {k : Nat} (h : k < l.length) (c : Int) : l.set k c = l.take k ++ c :: l.drop (k + 1) := List.set_eq_take_append_cons_drop.trans (if_pos h)
theorem at_split {l : List Int} {k : Nat} (h : k < l.length) : l = l.take k ++ l[k] :: l.drop (k + 1) := by rw [List.getElem_cons_drop, List.take_append_drop]
/-- One byte turned into another one. -/
theorem sum_turned {l : List Int} (hl : In8 l) {k : Nat} (h : k < l.length) {c : Int} (hc : 0 ≤ c ∧ c ≤ 255) : sumB (l.set k c) = sumB l ↔ c = l[k] := by
  have hk := hl.at k h
  rw [sumB_eq]
  constructor
  · intro e
    refine Classical.byContradiction fun hne => ?_
    rw [set_split h] at e
    conv at e => rhs; rw [at_split h]
    rw [sumP_append, sumP_append] at e
    refine sumP_apart1 (l.drop (k + 1)) _ _ ?_ (congrArg Prod.fst e)
    simp only
    omega
  · intro e
    rw [e, List.set_getElem_self]
/-- Two side by side changed over. -/
def swapL (l : List Int) (k : Nat) (x y : Int) : List Int := (l.set k y).set (k + 1) x
theorem swap_split {l : List Int} {k : Nat} (h : k + 1 < l.length) (x y : Int) : swapL l k x y = l.take k ++ y :: x :: l.drop (k + 2) := by
  unfold swapL
  rw [set_split (l := l.set k y) (by simpa using h)]
  rw [List.drop_set_of_lt (by omega), set_split (show k < l.length by omega)]
  rw [List.take_append]
  simp only [List.length_take, Nat.min_eq_left (show k ≤ l.length by omega), Nat.add_sub_cancel_left]
  rw [List.take_take, Nat.min_eq_right (by omega)]
  simp
theorem two_split {l : List Int} {k : Nat} (h : k + 1 < l.length) : l = l.take k ++ l[k] :: l[k + 1] :: l.drop (k + 2) := by
  conv => lhs; rw [at_split (show k < l.length by omega)]
  rw [List.drop_eq_getElem_cons h]
theorem sum_swapped {l : List Int} (hl : In8 l) {k : Nat} (h : k + 1 < l.length) : sumB (swapL l k l[k] l[k + 1]) = sumB l ↔ l[k] = l[k + 1] := by
  have h1 := hl.at k (by omega)
  have h2 := hl.at (k + 1) h
  have hs := sumP_in (l.take k) (0, 0) (by simp)
  rw [sumB_eq, swap_split h]
  constructor
  · intro e
    refine Classical.byContradiction fun hne => ?_
    conv at e => rhs; rw [two_split h]
    rw [sumP_append, sumP_append] at e
    generalize sumP (0, 0) (l.take k) = s at *
    refine sumP_apart2 (l.drop (k + 2)) _ _ ?_ ?_ (congrArg Prod.snd e)
    · simp only; omega
    · simp only; omega
  · intro e
    conv => rhs; rw [two_split h]
    rw [e]

end Go.Proofs.YtjapdbegfanfiaaGreatDoor
