/-
  Rows of bytes as they lie in memory: kept, copied, cut, told as a text; what a call that writes one block leaves as it was; bits of bytes.
-/
import Derived.Test.YtjapdbegfanfiaaGreatDoorWireM
import Derived.Test.YtjapdbegfanfiaaGreatDoorA1
import Derived.Test.YtjapdbegfanfiaaGreatDoorCarry
import Derived.Laws.BytesArg
import Derived.Laws.BitsAllLaws
import Derived.Laws.ShiftsVarLaws
import Derived.ArgAppend
import Derived.Lib.Hide
import Derived.WalkSmall
namespace Go.Proofs.YtjapdbegfanfiaaGreatDoor
open Go.RowKit

/-! ### what stays where one block is written -/
/-- All old blocks but b are as they were. -/
structure But (b : Nat) (w w' : World) : Prop where
  os : w'.os = w.os
  tape : w'.tape = w.tape
  output : w'.output = w.output
  size : w.heap.size ≤ w'.heap.size
  block : ∀ k, k < w.heap.size → k ≠ b → w'.heap[k]? = w.heap[k]?
theorem But.refl (b : Nat) (w : World) : But b w w := ⟨rfl, rfl, rfl, Nat.le_refl _, fun _ _ _ => rfl⟩
theorem But.trans {b : Nat} {u v w : World} (h : But b u v) (k : But b v w) : But b u w :=
  ⟨k.os.trans h.os, k.tape.trans h.tape, k.output.trans h.output, Nat.le_trans h.size k.size, fun i hi hb => (k.block i (Nat.lt_of_lt_of_le hi h.size) hb).trans (h.block i hi hb)⟩
theorem But.of_below {b : Nat} {w w' : World} (h : Below w.heap.size w w') : But b w w' := ⟨h.os, h.tape, h.output, h.size, fun k hk _ => h.block k hk⟩
theorem But.setCell {b : Nat} {w w' : World} (h : But b w w') (o : Nat) (v : Value) : But b w (w'.setCell ⟨b, o, none⟩ v) :=
  h.trans ⟨rfl, rfl, rfl, by simp [World.setCell], fun k _ hb => Below.heap_setCell _ _ _ _ hb⟩
theorem But.drew {b : Nat} {w w' : World} (h : But b w w') : But b w w'.drew := ⟨h.os, h.tape, h.output, h.size, h.block⟩
/-- Below that block nothing turned. -/
theorem But.below {b B : Nat} {w w' : World} (h : But b w w') (hb : B ≤ b) (hB : B ≤ w.heap.size) : Below B w w' := ⟨h.os, h.tape, h.output, h.size, fun k hk => h.block k (by omega) (by omega)⟩
theorem But.blk {b k : Nat} {w w' : World} {cs : Array Value} {t : TypeId} (h : But b w w') (hk : Blk w k cs t) (hb : k ≠ b) : Blk w' k cs t := (h.block k hk.lt hb).trans hk
theorem But.cell {b : Nat} {w w' : World} (h : But b w w') {k o : Nat} {v : Value} (hc : w.cell? ⟨k, o, none⟩ = some v) (hb : k ≠ b) : w'.cell? ⟨k, o, none⟩ = some v :=
  (World.cell?_of_block (w := w) (a := ⟨k, o, none⟩) (h.block k (World.block_lt_of_cell? w _ hc) hb)).trans hc

theorem own8_ne {w : World} {base : Nat} {e : TypeId} {size : Nat} {v : Value} {n : Nat} {xs : List Value} (h : w.ownsRow base e size v n xs) {b : Nat} (hb : b < base) : v.ownBlock ≠ some b := by
  rcases h.2 with ⟨rfl, _⟩ | ⟨g, cap, cur, rfl, hg, _⟩
  · simp [Value.ownBlock]
  · simp only [Value.ownBlock, ne_eq, Option.some.injEq]; omega
theorem own8_ge {w : World} {base : Nat} {e : TypeId} {size : Nat} {v : Value} {n : Nat} {xs : List Value} (h : w.ownsRow base e size v n xs) : ∀ g, v.ownBlock = some g → base ≤ g := by
  intro g hg
  rcases h.2 with ⟨rfl, _⟩ | ⟨g', cap, cur, rfl, hb, _⟩
  · simp [Value.ownBlock] at hg
  · simp only [Value.ownBlock, Option.some.injEq] at hg; omega
theorem below_new8 {w : World} (a : Obj) : Below w.heap.size w (w.alloc a) := (Below.refl _ _).alloc (Nat.le_refl _) _
theorem below_grown8 {B : Nat} {w W0 wr : World} {r : Option Nat} (hb : Below B w W0) (hB : B ≤ w.heap.size) (hg : W0.grownBy wr r) (h : ∀ g, r = some g → B ≤ g) : Below B w wr :=
  hb.grown hg (Nat.le_trans hB hb.size) (fun g hr => h g (by simpa using hr))

/-! ### rows of bytes -/
/-- The value v is a row of bytes, read in world w: it lies in block x. -/
def U8at (w : World) (v : Value) (l : List Int) (x : Nat) : Prop :=
  (l = [] ∧ ∃ p c, v = .slice p 0 c ∧ (p = none → c = 0)) ∨ (l.length ≤ 9223372036854775807 ∧ ∃ o c, l.length ≤ c ∧ c ≤ 9223372036854775807 ∧ v = .slice (some ⟨x, o, none⟩) l.length c ∧ x < w.heap.size ∧ ∀ i (h : i < l.length), w.cell? ⟨x, o + i, none⟩ = some (.int .u8 l[i]))
def U8s (w : World) (v : Value) (l : List Int) : Prop := ∃ x, U8at w v l x
theorem U8at.shape {w : World} {v : Value} {l : List Int} {x : Nat} (h : U8at w v l x) : ∃ q c, v = .slice q l.length c := by
  rcases h with ⟨rfl, p, c, rfl, -⟩ | ⟨_, o, c, -, -, rfl, _⟩
  · exact ⟨p, c, rfl⟩
  · exact ⟨_, c, rfl⟩
theorem U8s.shape {w : World} {v : Value} {l : List Int} (h : U8s w v l) : ∃ q c, v = .slice q l.length c := by
  obtain ⟨x, h⟩ := h
  exact h.shape
theorem U8at.but {w w' : World} {v : Value} {l : List Int} {x b : Nat} (h : U8at w v l x) (hb : But b w w') (hx : x ≠ b) : U8at w' v l x := by
  rcases h with h | ⟨hl, o, c, h1, h2, rfl, hlt, hc⟩
  · exact Or.inl h
  · exact Or.inr ⟨hl, o, c, h1, h2, rfl, Nat.lt_of_lt_of_le hlt hb.size, fun i hi => hb.cell (hc i hi) hx⟩
theorem U8at.below {w w' : World} {v : Value} {l : List Int} {x : Nat} (h : U8at w v l x) (hb : Below w.heap.size w w') : U8at w' v l x := by
  rcases h with h | ⟨hl, o, c, h1, h2, rfl, hlt, hc⟩
  · exact Or.inl h
  · exact Or.inr ⟨hl, o, c, h1, h2, rfl, Nat.lt_of_lt_of_le hlt hb.size, fun i hi => (hb.cell (World.block_lt_of_cell? w _ (hc i hi))).trans (hc i hi)⟩
theorem U8s.below {w w' : World} {v : Value} {l : List Int} (h : U8s w v l) (hb : Below w.heap.size w w') : U8s w' v l := by
  obtain ⟨x, h⟩ := h
  exact ⟨x, h.below hb⟩
/-- Where a block is written that was made later. -/
theorem U8s.but {w w' w0 : World} {v : Value} {l : List Int} {b : Nat} (h : U8s w0 v l) (h0 : Below w0.heap.size w0 w) (hb : But b w w') (hx : w0.heap.size ≤ b) : U8s w' v l := by
  obtain ⟨x, h⟩ := h
  rcases h with h | ⟨hl, o, c, h1, h2, rfl, hlt, hc⟩
  · exact ⟨x, Or.inl h⟩
  · refine ⟨x, Or.inr ⟨hl, o, c, h1, h2, rfl, Nat.lt_of_lt_of_le hlt (Nat.le_trans h0.size hb.size), fun i hi => ?_⟩⟩
    exact hb.cell ((h0.cell (p := ⟨x, o + i, none⟩) hlt).trans (hc i hi)) (by omega)
theorem U8s.nil (w : World) : U8s w (.slice none 0 0) [] := ⟨0, Or.inl ⟨rfl, none, 0, rfl, fun _ => rfl⟩⟩
theorem u8_of_owns {w : World} {base : Nat} {e : TypeId} {v : Value} {n : Nat} {l : List Int} (h : w.ownsRow base e 1 v n (l.map (Value.int .u8))) (hl : l.length ≤ 9223372036854775807) : ∃ x, U8at w v l x ∧ (l = [] ∨ base ≤ x) := by
  have hn : n = l.length := by have := h.1; simp at this; omega
  subst hn
  rcases h.2 with ⟨rfl, e⟩ | ⟨g, cap, cur, rfl, hg, hgg, hnc, hcm, _, _⟩
  · have : l = [] := List.length_eq_zero_iff.1 e
    subst this
    exact ⟨0, Or.inl ⟨rfl, none, 0, rfl, fun _ => rfl⟩, Or.inl rfl⟩
  · refine ⟨g, Or.inr ⟨hl, 0, cap, hnc, by unfold maxLen at hcm; omega, rfl, (Array.getElem?_eq_some_iff.1 hgg).1, fun i hi => ?_⟩, Or.inr hg⟩
    rw [Nat.zero_add, h.cellAt i (by omega)]
    simp [hi]
/-- Ahead of a place, behind it. -/
theorem U8at.take {w : World} {q : Option Addr} {c n : Nat} {l : List Int} {x : Nat} (h : U8at w (.slice q n c) l x) (k : Nat) (hk : k ≤ l.length) : U8at w (.slice q k c) (l.take k) x := by
  rcases h with ⟨rfl, p, c', e, hp⟩ | ⟨hl, o, c', h1, h2, e, hlt, hc⟩
  · injection e with e1 e2 e3
    subst e1 e3
    obtain rfl : k = 0 := by simpa using hk
    exact Or.inl ⟨by simp, _, _, rfl, hp⟩
  · injection e with e1 e2 e3
    subst e1 e3
    have e : (l.take k).length = k := by rw [List.length_take]; omega
    refine Or.inr ⟨by omega, o, c, by omega, h2, by rw [e], hlt, fun i hi => ?_⟩
    rw [List.getElem_take]
    exact hc i (by omega)
/-- What a slice from a place on points to. -/
def moved (q : Option Addr) (c k : Nat) : Option Addr := if c = k then q else q.map (fun p => p.add k)
theorem U8at.drop {w : World} {q : Option Addr} {c n : Nat} {l : List Int} {x : Nat} (h : U8at w (.slice q n c) l x) (k : Nat) (hk : k ≤ l.length) : U8at w (.slice (moved q c k) (n - k) (c - k)) (l.drop k) x := by
  rcases h with ⟨rfl, p, c', e, hp⟩ | ⟨hl, o, c', h1, h2, e, hlt, hc⟩
  · injection e with e1 e2 e3
    subst e1 e2 e3
    obtain rfl : k = 0 := by simpa using hk
    refine Or.inl ⟨by simp, _, _, rfl, fun h => ?_⟩
    unfold moved at h
    by_cases h0 : c = 0
    · omega
    · rw [if_neg h0] at h
      cases q with
      | none => exact hp rfl
      | some p => cases h
  · injection e with e1 e2 e3
    subst e1 e2 e3
    have e : (l.drop k).length = l.length - k := List.length_drop
    by_cases h0 : c = k
    · have e3 : l.drop k = [] := List.length_eq_zero_iff.1 (by rw [e]; omega)
      have e4 : l.length - k = 0 := by omega
      rw [e3, e4]
      refine Or.inl ⟨rfl, _, _, rfl, fun h => ?_⟩
      unfold moved at h
      rw [if_pos h0] at h
      cases h
    · have e2 : moved (some ⟨x, o, none⟩) c k = some ⟨x, o + k, none⟩ := by
        unfold moved Addr.add
        simp [h0]
      refine Or.inr ⟨by omega, o + k, c - k, by omega, by omega, by rw [e, e2], hlt, fun i hi => ?_⟩
      rw [List.getElem_drop, Nat.add_assoc]
      exact hc (k + i) (by omega)
theorem info8 : (Tryz.prog.info? 5).map (fun i => (i.zero, i.size, i.bytes)) = some (some (.int .u8 0), 1, 1) := by kernel_rfl
/-- A literal row. -/
theorem U8at.lit (w : World) (l : List Int) (hl : l.length ≤ 1000) (g : Nat) (hg : w.heap.size = g) : U8at (w.alloc (.cells (l.map (Value.int .u8)).toArray 5)) (.slice (some ⟨g, 0, none⟩) l.length l.length) l g := by
  subst hg
  refine Or.inr ⟨by omega, 0, l.length, Nat.le_refl _, by omega, rfl, by simp, fun i hi => ?_⟩
  rw [World.cell?_alloc_at _ _ _ _ (by simp)]
  simp [hi]

/-- A row, copied behind an empty literal, wherever that stands. -/
theorem copy8 (W : World) (v : Value) (l : List Int) (hv : U8s W v l) (hs : l.length ≤ 100000) (g : Nat) :
    ∃ v' w' x, (Builtin.append_ #[22, 22] 22 #[.slice (some ⟨g, 0, none⟩) 0 0, v]).run Tryz.prog W = .ok v' w' ∧ U8at w' v' l x ∧ (l = [] ∨ W.heap.size ≤ x) ∧ Below W.heap.size W w' ∧ (l = [] ∨ w'.ownsRow W.heap.size 5 1 v' l.length (l.map (Value.int .u8))) := by
  obtain ⟨i0, hi, hz0, hz1, hz2⟩ := info_parts info8
  have ht : Tryz.prog.underlying 22 = some (.slice 5) := Tryz.underlying22
  obtain ⟨x, hv⟩ := hv
  rcases hv with ⟨rfl, p, c, rfl, hpc⟩ | ⟨hl, o, c, -, -, rfl, -, hc⟩
  · refine ⟨.slice (some ⟨g, 0, none⟩) 0 0, W, 0, ?_, Or.inl ⟨rfl, _, _, rfl, fun h => by cases h⟩, Or.inl rfl, Below.refl _ _, Or.inl rfl⟩
    cases p with
    | none =>
      simp [Builtin.append_, run_underlying ht, sizeOf, typeInfo, hi, Builtin.lenOf, Builtin.firstCells, storeCells]
    | some ad =>
      have := run_append_room_cells (P := Tryz.prog) (w := W) 22 22 5 i0 ht hi g 0 0 0 ad 0 c [] (by simp) (by intro j u h; simp at h) (by intro u h; cases h) (by omega) (by intro j h; simp at h) (by intro j h; simp at h)
      simpa [World.setCells] using this
  · by_cases h0 : l.length = 0
    · obtain rfl : l = [] := List.length_eq_zero_iff.1 h0
      refine ⟨.slice (some ⟨g, 0, none⟩) 0 0, W, 0, ?_, Or.inl ⟨rfl, _, _, rfl, fun h => by cases h⟩, Or.inl rfl, Below.refl _ _, Or.inl rfl⟩
      have := run_append_room_cells (P := Tryz.prog) (w := W) 22 22 5 i0 ht hi g 0 0 0 ⟨x, o, none⟩ 0 c [] (by simp) (by intro j u h; simp at h) (by intro u h; cases h) (by omega) (by intro j h; simp at h) (by intro j h; simp at h)
      simpa [World.setCells] using this
    · obtain ⟨v', w', hr, h1, h2⟩ := run_append_arg_grows (P := Tryz.prog) (w := W) 22 22 5 i0 (.int .u8 0) 1 1 ht hi hz0 hz1 hz2 rfl (by decide) ⟨g, 0, none⟩ 0 0 [] (by simp) (by intro j u h; simp at h) ⟨x, o, none⟩ l.length c (l.map (Value.int .u8)) (by simp)
        (fun j u hu => by
          obtain ⟨hj, hu⟩ := List.getElem?_eq_some_iff.1 hu
          have hj' : j < l.length := by simpa using hj
          have e : (⟨x, o, none⟩ : Addr).add j = ⟨x, o + j, none⟩ := by unfold Addr.add; split <;> simp_all
          rw [e, hc j hj', ← hu, List.getElem_map]) (by omega) (by simp [maxLen]; omega) (by omega)
      rw [List.nil_append, Nat.zero_add] at h1
      obtain ⟨y, h3, h4⟩ := u8_of_owns h1 hl
      exact ⟨v', w', y, hr, h3, h4, (Below.refl _ _).grown h2 (Nat.le_refl _) (by intro k hk; cases hk), Or.inr h1⟩

/-- A row behind a row that the call owns. -/
theorem app8 (W : World) (base : Nat) (u v : Value) (l m : List Int) (ho : W.ownsRow base 5 1 u l.length (l.map (Value.int .u8))) (hB : base ≤ W.heap.size) (hv : U8s W v m) (hs : l.length + m.length ≤ 100000) :
    ∃ v' w', (Builtin.append_ #[22, 22] 22 #[u, v]).run Tryz.prog W = .ok v' w' ∧ w'.ownsRow base 5 1 v' (l ++ m).length ((l ++ m).map (Value.int .u8)) ∧ Below base W w' := by
  obtain ⟨i0, hi, hz0, hz1, hz2⟩ := info_parts info8
  have ht : Tryz.prog.underlying 22 = some (.slice 5) := Tryz.underlying22
  obtain ⟨x, hv⟩ := hv
  have key : ∀ (ad : Addr) (c : Nat), v = .slice (some ad) m.length c → (∀ j u, (m.map (Value.int .u8))[j]? = some u → W.cell? (ad.add j) = some u) →
      ∃ v' w', (Builtin.append_ #[22, 22] 22 #[u, v]).run Tryz.prog W = .ok v' w' ∧ w'.ownsRow base 5 1 v' (l ++ m).length ((l ++ m).map (Value.int .u8)) ∧ Below base W w' := by
    rintro ad c rfl hc
    obtain ⟨v', w', hr, h1, h2, h3⟩ := run_append_own (P := Tryz.prog) W base 22 22 5 i0 (.int .u8 0) 1 1 ht hi hz0 hz1 hz2 rfl (by decide) u l.length (l.map (Value.int .u8)) ho ad m.length c (m.map (Value.int .u8)) (by simp) hc
      (by intro u hu; obtain ⟨x, _, rfl⟩ := List.mem_map.1 hu; rfl) (by simp [maxLen]; omega) (by omega) hB
    refine ⟨v', w', hr, by rw [List.length_append, List.map_append]; exact h1, ?_⟩
    exact below_grown8 (Below.refl _ _) hB h2 (fun g hg => own8_ge ho g hg)
  rcases hv with ⟨rfl, p, c, rfl, hpc⟩ | ⟨hl, o, c, -, -, rfl, -, hc⟩
  · cases p with
    | none =>
      obtain rfl := hpc rfl
      have := run_append_owned_none (P := Tryz.prog) W base 22 22 5 i0 1 ht hi u l.length (l.map (Value.int .u8)) ho
      exact ⟨_, _, this, by simpa using ho, Below.refl _ _⟩
    | some ad => exact key ad c rfl (by intro j u hu; simp at hu)
  · refine key ⟨x, o, none⟩ c rfl fun j u hu => ?_
    obtain ⟨hj, hu⟩ := List.getElem?_eq_some_iff.1 hu
    have hj' : j < m.length := by simpa using hj
    have e : (⟨x, o, none⟩ : Addr).add j = ⟨x, o + j, none⟩ := by unfold Addr.add; split <;> simp_all
    rw [e, hc j hj', ← hu, List.getElem_map]

/-! ### texts -/
/-- A row as a text. -/
theorem text8 (w : World) (v : Value) (l : List Int) (h : U8s w v l) : (convert 22 9 v).run Tryz.prog w = .ok (.string (strOfNums l)) w := by
  obtain ⟨x, h⟩ := h
  have ht : Tryz.prog.underlying 22 = some (.slice 5) := Tryz.underlying22
  rcases h with ⟨rfl, p, c, rfl, hp⟩ | ⟨hl, o, c, -, -, rfl, -, hc⟩
  · cases p with
    | none => exact run_convert_bytes_nil w _ 5 ht Tryz.underlying5 0 c _ Tryz.underlying9
    | some p =>
      have := run_convert_bytes_back (P := Tryz.prog) w 22 9 5 p c [] ht Tryz.underlying5 Tryz.underlying9 (fun j hj => by simp at hj)
      simpa [strOfNums] using this
  · exact run_convert_bytes_arg w 22 5 ht Tryz.underlying5 x o l.length c l rfl (fun i hi => by rw [hc i hi]; simp [List.getD_eq_getElem?_getD, hi]) _ Tryz.underlying9
theorem strOfNums_inj : ∀ {l m : List Int}, In8 l → In8 m → strOfNums l = strOfNums m → l = m := by
  have key : ∀ {l m : List Int}, In8 l → In8 m → (l.map fun n => UInt8.ofNat n.toNat) = (m.map fun n => UInt8.ofNat n.toNat) → l = m := by
    intro l
    induction l with
    | nil => intro m _ _ h; cases m with
      | nil => rfl
      | cons y m => simp at h
    | cons x l ih => intro m hl hm h; cases m with
      | nil => simp at h
      | cons y m =>
        simp only [List.map_cons, List.cons.injEq] at h
        have hx := hl x (List.mem_cons_self ..)
        have hy := hm y (List.mem_cons_self ..)
        have h1 := congrArg UInt8.toNat h.1
        simp only [UInt8.toNat_ofNat'] at h1
        rw [ih (fun z hz => hl z (List.mem_cons_of_mem _ hz)) (fun z hz => hm z (List.mem_cons_of_mem _ hz)) h.2]
        congr 1
        omega
  intro l m hl hm h
  exact key hl hm (by rw [← strOfNums_data, ← strOfNums_data, h])
theorem strOfNums_list (l : List Int) : (strOfNums l).toList = l.map fun n => UInt8.ofNat n.toNat := by rw [ByteArray.toList_eq]; rfl
theorem text_eq {l m : List Int} (hl : In8 l) (hm : In8 m) : ((strOfNums l).toList == (strOfNums m).toList) = decide (l = m) := by
  by_cases h : l = m
  · subst h; simp
  · have : ¬ (strOfNums l).toList = (strOfNums m).toList := fun e => h (strOfNums_inj hl hm (by
      rw [ByteArray.toList_eq, ByteArray.toList_eq] at e
      exact ByteArray.ext (Array.toList_inj.1 e)))
    simp [h, this]

/-! ### bits -/
theorem or128F : ∀ n : Fin 256, bits BinOp.or IntKind.u8 (n.val : Int) 128 = (n.val : Int) % 128 + 128 := by decide +kernel
theorem or128 (v : Int) (h0 : 0 ≤ v) (h1 : v ≤ 255) : bits BinOp.or IntKind.u8 v 128 = v % 128 + 128 := by
  have := or128F ⟨v.toNat, by omega⟩
  simpa [Int.toNat_of_nonneg h0] using this
theorem no128F : ∀ n : Fin 256, bits BinOp.andNot IntKind.u8 (n.val : Int) 128 = (n.val : Int) % 128 := by decide +kernel
theorem no128 (v : Int) (h0 : 0 ≤ v) (h1 : v ≤ 255) : bits BinOp.andNot IntKind.u8 v 128 = v % 128 := by
  have := no128F ⟨v.toNat, by omega⟩
  simpa [Int.toNat_of_nonneg h0] using this
theorem orSum (k : Nat) (v x : Nat) (hk : k ≤ 64) (hv : v < 2 ^ k) (hx : x * 2 ^ k < 18446744073709551616) : bits BinOp.or IntKind.u64 (v : Int) ((x * 2 ^ k : Nat) : Int) = ((v + x * 2 ^ k : Nat) : Int) := by
  have h1 : v < 18446744073709551616 := Nat.lt_of_lt_of_le hv (by calc 2 ^ k ≤ 2 ^ 64 := Nat.pow_le_pow_right (by decide) hk
    _ = 18446744073709551616 := by decide)
  rw [bits_or_u64_nat v (x * 2 ^ k) h1 hx]
  have e : v ||| x * 2 ^ k = v + x * 2 ^ k := by
    rw [Nat.or_comm, Nat.mul_comm x, ← Nat.two_pow_add_eq_or_of_lt hv]
    omega
  rw [e]

end Go.Proofs.YtjapdbegfanfiaaGreatDoor
