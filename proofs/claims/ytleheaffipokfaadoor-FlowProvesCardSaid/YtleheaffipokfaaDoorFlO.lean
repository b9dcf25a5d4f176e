/-
  A row of rows that grow one by one, each in a block of its own.
-/
import Derived.Test.YtleheaffipokfaaDoorFlS
import Derived.WalkSmall
namespace Go.Proofs.YtleheaffipokfaaDoor
open Go.RowKit

theorem infoRowI : (Tryd.prog.info? 23).map (fun i => (i.zero, i.size, i.bytes)) = some (some (.slice none 0 0), 1, 24) := by kernel_rfl
theorem Keep.on {P : Nat → Prop} {w w' w'' : World} (h : Keep P w w') (hb : Below w.heap.size w' w'') : Keep P w w'' :=
  ⟨hb.os.trans h.os, hb.tape.trans h.tape, hb.output.trans h.output, Nat.le_trans h.size hb.size, fun k hk hp => (hb.block k hk).trans (h.block k hk hp)⟩
/-- No two of these rows lie in one block. -/
def Dis1 (us : List Value) : Prop := ∀ (i j : Nat) (u u' : Value) (g : Nat), i ≠ j → us[i]? = some u → us[j]? = some u' → u.ownBlock = some g → u'.ownBlock ≠ some g
def OwnL (w : World) (base : Nat) (us : List Value) (L : Nat → List Int) : Prop := ∀ (i : Nat) (u : Value), us[i]? = some u → w.ownsRow base 3 1 u (L i).length ((L i).map (Value.int .i64))
structure AtR (m : Nat) (L : Nat → List Int) (ab : Nat) (w0 w : World) : Prop where
  rows : ∃ us : List Value, Blk w ab us.toArray 23 ∧ us.length = m ∧ OwnL w w0.heap.size us L ∧ Dis1 us
  kp : Keep (fun b => b ≠ ab) w0 w
  lt : ab < w0.heap.size
/-- .. where the row of v has grown to v', which isn't put in its place yet. -/
structure AtP (m : Nat) (L : Nat → List Int) (ab v : Nat) (v' : Value) (w0 w : World) : Prop where
  rows : ∃ us : List Value, Blk w ab us.toArray 23 ∧ us.length = m ∧ v < m ∧ OwnL w w0.heap.size (us.set v v') L ∧ Dis1 (us.set v v')
  kp : Keep (fun b => b ≠ ab) w0 w
  lt : ab < w0.heap.size
theorem owns_set {w : World} {base : Nat} {e : TypeId} {size : Nat} {v : Value} {n : Nat} {xs : List Value} (h : w.ownsRow base e size v n xs) {k : Nat} {cs : Array Value} {t : TypeId} (hk : Blk w k cs t) (hne : e ≠ t) (o : Nat) (x : Value) : (w.setCell ⟨k, o, none⟩ x).ownsRow base e size v n xs :=
  own_other h (own_ne_blk h hk hne) o x
section
variable {m : Nat} {L : Nat → List Int} {ab : Nat} {w0 w w' : World}
theorem OwnL.below {base : Nat} {us : List Value} (h : OwnL w base us L) (hb : Below w.heap.size w w') : OwnL w' base us L := fun i u hu => own_below (h i u hu) hb
theorem AtR.old (h : AtR m L ab w0 w) (hb : Below w.heap.size w w') : AtR m L ab w0 w' := by
  obtain ⟨us, h1, h2, h3, h4⟩ := h.rows
  exact ⟨⟨us, h1.keep hb, h2, h3.below hb, h4⟩, h.kp.on (hb.mono h.kp.size), h.lt⟩
theorem AtP.old {v : Nat} {v' : Value} (h : AtP m L ab v v' w0 w) (hb : Below w.heap.size w w') : AtP m L ab v v' w0 w' := by
  obtain ⟨us, h1, h2, hv, h3, h4⟩ := h.rows
  exact ⟨⟨us, h1.keep hb, h2, hv, h3.below hb, h4⟩, h.kp.on (hb.mono h.kp.size), h.lt⟩
theorem AtR.cell (h : AtR m L ab w0 w) {v : Nat} (hv : v < m) (hl : (L v).length ≤ 100000) : ∃ q c, w.cell? ⟨ab, v, none⟩ = some (.slice q (L v).length c) ∧ I64s w (.slice q (L v).length c) (L v) := by
  obtain ⟨us, h1, h2, h3, h4⟩ := h.rows
  have hvu : v < us.length := by omega
  have hus : us[v]? = some us[v] := List.getElem?_eq_getElem hvu
  have ho := h3 v _ hus
  obtain ⟨q, c, e⟩ := own_shape ho
  refine ⟨q, c, ?_, ?_⟩
  · rw [← e]; exact h1.cell v (by rw [List.getElem?_toArray]; exact hus)
  · rw [← e]; exact ints_of_owns ho (by omega)
theorem AtP.put {v : Nat} {v' : Value} (h : AtP m L ab v v' w0 w) : (∃ u, w.cell? ⟨ab, v, none⟩ = some u) ∧ w.frozen? ⟨ab, v, none⟩ = false ∧ ab < w.heap.size ∧ AtR m L ab w0 (w.setCell ⟨ab, v, none⟩ v') := by
  obtain ⟨us, h1, h2, hv, h3, h4⟩ := h.rows
  refine ⟨⟨us[v], h1.cell v (by rw [List.getElem?_toArray]; exact List.getElem?_eq_getElem (by omega))⟩, h1.free v, h1.lt, ⟨us.set v v', ?_, by simpa using h2, fun i x hx => owns_set (h3 i x hx) h1 (by decide) _ _, h4⟩, h.kp.setCell (fun k => k rfl) _ _, h.lt⟩
  have := h1.set v v'
  rwa [List.setIfInBounds_toArray] at this
theorem AtR.app {L' : Nat → List Int} {v : Nat} {x : Int} {g : Nat} {u : Value} (h : AtR m L ab w0 w) (hu : w.cell? ⟨ab, v, none⟩ = some u) (hg : Blk w g #[.int .i64 x] 3) (hv : v < m) (hlen : (L v).length ≤ 100000) (hL : L' v = L v ++ [x]) (hO : ∀ i, i ≠ v → L' i = L i) :
    ∃ q' n' c' w', (Builtin.append_ #[23, 23] 23 #[u, .slice (some ⟨g, 0, none⟩) 1 1]).run Tryd.prog w = .ok (.slice q' n' c') w' ∧ AtP m L' ab v (.slice q' n' c') w0 w' ∧ w.heap.size ≤ w'.heap.size ∧ w'.cell? ⟨ab, v, none⟩ = some u ∧ ∀ g cs t, Blk w g cs t → 3 ≠ t → Blk w' g cs t := by
  obtain ⟨us1, h1, h3, h5, h7⟩ := h.rows
  obtain ⟨i0, hi, hz0, hz1, hz2⟩ := info_parts infoInt
  have hvu : v < us1.length := by omega
  have hus : us1[v]? = some us1[v] := List.getElem?_eq_getElem hvu
  obtain rfl : u = us1[v] := Option.some.inj (hu.symm.trans (h1.cell v (by rw [List.getElem?_toArray]; exact hus)))
  have o1 := h5 v _ hus
  have hz9 : w0.heap.size ≤ w.heap.size := h.kp.size
  obtain ⟨v', w', hr, r1, r2, -, r4⟩ := run_append_own_at (P := Tryd.prog) w w0.heap.size 23 23 3 i0 (.int .i64 0) 1 8 Tryd.underlying23 hi hz0 hz1 hz2 rfl (by decide) us1[v] (L v).length _ o1 ⟨g, 0, none⟩ 1 1 [.int .i64 x] rfl
    (fun j u hj => by
      rcases j with _ | j
      · simp only [List.getElem?_cons_zero, Option.some.injEq] at hj
        subst hj
        exact hg.cell 0 rfl
      · simp at hj) (by intro u hu; simp at hu; subst hu; rfl) (by unfold maxLen; omega) (by omega) hz9
  have new : ∀ {y : Value} {g' : Nat}, (∃ L, w.ownsRow w0.heap.size 3 1 y (L : List Int).length (L.map (Value.int .i64))) → y.ownBlock = some g' → (∀ g'', us1[v].ownBlock = some g'' → y.ownBlock ≠ some g'') → v'.ownBlock ≠ some g' := fun ⟨L, hy⟩ hg' hne => by
    rcases r4 with r4 | r4
    · rw [r4]
      intro e
      exact hne _ e hg'
    · rw [r4]
      intro e
      injection e with e
      have := (hy.lt _ hg').2
      omega
  have hbw : Below w0.heap.size w w' := (Below.refl _ _).grown r2 hz9 (fun g' hg' => own_ge o1 g' (by simpa using hg'))
  have hP : AtP m L' ab v v' w0 w' := by
    refine ⟨⟨us1, h1.grownO r2 (own_ne_blk o1 h1 (by decide)), h3, hv, fun i y hui => ?_, fun i j y y' g' hij hi' hj' hg' => ?_⟩, h.kp.on hbw, h.lt⟩
    · by_cases hiv : i = v
      · subst hiv
        rw [List.getElem?_set_self hvu] at hui
        injection hui with hui
        subst hui
        rw [hL, List.length_append, List.map_append]
        exact r1
      · rw [List.getElem?_set_ne (by omega)] at hui
        rw [hO i hiv]
        refine (h5 i y hui).kept r2 ?_
        cases hub : y.ownBlock with
        | none => exact Or.inl rfl
        | some g' => exact Or.inr (fun e => h7 i v y _ g' hiv hui hus hub e.symm)
    · by_cases hiv : i = v
      · subst hiv
        rw [List.getElem?_set_self hvu] at hi'
        injection hi' with hi'
        subst hi'
        rw [List.getElem?_set_ne (by omega)] at hj'
        intro e
        exact new ⟨_, h5 j y' hj'⟩ e (fun g'' hg'' => h7 i j _ y' g'' hij hus hj' hg'') hg'
      · rw [List.getElem?_set_ne (by omega)] at hi'
        by_cases hjv : j = v
        · subst hjv
          rw [List.getElem?_set_self hvu] at hj'
          injection hj' with hj'
          subst hj'
          exact new ⟨_, h5 i y hi'⟩ hg' (fun g'' hg'' => h7 j i _ y g'' (fun e => hij e.symm) hus hi' hg'')
        · rw [List.getElem?_set_ne (by omega)] at hj'
          exact h7 i j y y' g' hij hi' hj' hg'
  have hcell : w'.cell? ⟨ab, v, none⟩ = some us1[v] := (h1.grownO r2 (own_ne_blk o1 h1 (by decide))).cell v (by rw [List.getElem?_toArray]; exact hus)
  obtain ⟨q', c', rfl⟩ := own_shape r1
  exact ⟨q', _, c', w', hr, hP, r2.size, hcell, fun g cs t hk hne => hk.grownO r2 (own_ne_blk o1 hk hne)⟩
end
/-! ### .. in a region that draws its order -/
theorem GG.exec_append {P : Program} {o : Oper} {ρ : Operand → Value} {w w' : World} (s x : Operand) (t : TypeId) (ho : o.op = .call { callee := .builtin .append, args := #[s, x], argTypes := #[t, t] })
    {v sv v' : Value} (hs : ρ s = v) (hx : ρ x = sv) (hr : (Builtin.append_ #[t, t] o.type #[v, sv]).run P w = .ok v' w') : (execOp ρ o).run P w = .ok (.value v') w' := by
  unfold execOp
  simp only [ho, resolve, invoke, builtin, Sem.run_bind, Sem.run_pure, Result.andThen_ok, List.map_toArray, List.map_cons, List.map_nil, hs, hx, hr]
/-- A row grows in a region that draws its order: whether it has. -/
def GG.RlA (s : Bool) (w : World) (s' : Bool) (w' : World) : Prop := (s = true → s' = true) ∧ (s = s' → Below w.heap.size w w')
def GG.LitI (x : Int) (v : Value) (s : Bool) (w : World) : Prop := s = false → ∃ g, v = .slice (some ⟨g, 0, none⟩) 1 1 ∧ Blk w g #[.int .i64 x] 3
theorem GG.LitI.st (x : Int) (v : Value) (s : Bool) (w : World) (s' : Bool) (w' : World) (h : GG.LitI x v s w) (hr : GG.RlA s w s' w') : GG.LitI x v s' w' := by
  intro e
  cases s with
  | true => rw [hr.1 rfl] at e; cases e
  | false =>
    obtain ⟨g, e1, e2⟩ := h rfl
    exact ⟨g, e1, e2.keep (hr.2 e.symm)⟩
structure GG.S1 (j m : Nat) (L : Nat → List Int) (ab v : Nat) (u : Value) (gg : Nat) (gc : Array Value) (w0 : World) (dn : Nat → Bool) (s : Bool) (w : World) : Prop where
  here : dn j = s
  r : s = false → AtR m L ab w0 w
  k : Keep (fun b => b ≠ ab) w0 w
  c : w.cell? ⟨ab, v, none⟩ = some u
  g : Blk w gg gc 33
section
variable {j m : Nat} {L : Nat → List Int} {ab v gg : Nat} {u : Value} {gc : Array Value} {w0 : World} {dn : Nat → Bool} {s : Bool} {w w' : World}
theorem GG.S1.step (h : GG.S1 j m L ab v u gg gc w0 dn s w) {i : Nat} (hi : j ≠ i) : GG.S1 j m L ab v u gg gc w0 (GG.doneG dn i) s w :=
  ⟨by show (if j = i then true else dn j) = s; rw [if_neg hi]; exact h.here, h.r, h.k, h.c, h.g⟩
theorem GG.S1.still {i : Nat} (hi : j ≠ i) : GG.Still (GG.S1 j m L ab v u gg gc w0) GG.RlA i :=
  ⟨fun _ _ _ h => h.step hi, fun _ _ => ⟨id, fun _ => Below.refl _ _⟩⟩
theorem GG.S1.old (h : GG.S1 j m L ab v u gg gc w0 dn s w) (hb : Below w.heap.size w w') : GG.S1 j m L ab v u gg gc w0 dn s w' :=
  ⟨h.here, fun e => (h.r e).old hb, h.k.on (hb.mono h.k.size), keep hb h.c, h.g.keep hb⟩
end
def GG.App1 (m : Nat) (L : Nat → List Int) (ab v : Nat) (w0 : World) (v' : Value) (s : Bool) (w : World) : Prop := s = true ∧ (∃ q n c, v' = .slice q n c) ∧ AtP m L ab v v' w0 w
theorem GG.App1.st (m : Nat) (L : Nat → List Int) (ab v : Nat) (w0 : World) (v' : Value) (s : Bool) (w : World) (s' : Bool) (w' : World) (h : GG.App1 m L ab v w0 v' s w) (hr : GG.RlA s w s' w') : GG.App1 m L ab v w0 v' s' w' :=
  ⟨hr.1 h.1, h.2.1, h.2.2.old (hr.2 (by rw [h.1, hr.1 h.1]))⟩

/-! ### marks -/
/-- Of each of N vertices whether it is in the row. -/
def markL (N : Nat) (S : List Nat) : List Bool := (List.range N).map fun v => decide (v ∈ S)
theorem markL_len {N : Nat} {S : List Nat} : (markL N S).length = N := by simp [markL]
theorem markL_nil (N : Nat) : markL N [] = List.replicate N false := by
  refine List.ext_getElem (by simp [markL]) fun i h1 h2 => ?_
  simp [markL]
theorem markL_snoc {N x : Nat} {S : List Nat} : (markL N S).set x true = markL N (S ++ [x]) := by
  refine List.ext_getElem (by simp [markL]) fun i h1 h2 => ?_
  rw [List.getElem_set]
  by_cases h : x = i
  · subst h
    simp [markL]
  · rw [if_neg h]
    have : ¬ i = x := fun e => h e.symm
    simp [markL, this]
theorem markL_in {N v : Nat} {S : List Nat} (h : v < N) : setB (markL N S) v = decide (v ∈ S) := by
  rw [setB_at (by rw [markL_len]; exact h)]
  simp [markL]
/-- Numbers as they are told. -/
def zN (S : List Nat) : List Int := S.map fun v : Nat => (v : Int)
theorem zN_len (S : List Nat) : (zN S).length = S.length := by simp [zN]
set_option maxHeartbeats 2000000 in
set_option maxRecDepth 100000 in
theorem marks_is {w : World} {v : Value} {N : Nat} {S : List Nat} (h : I64s w v (zN S)) (hS : ∀ x, x ∈ S → x < N) (hN : N ≤ 4096) (hl : S.length ≤ 1000000) :
    Calls Tryd.prog 30 #[.int .i64 N, v] w fun e w' => e = .returned (.slice (some ⟨w.heap.size, 0, none⟩) N N) ∧ Blk w' w.heap.size (bolB (markL N S)) 4 ∧ Below w.heap.size w w' := by
  obtain ⟨q, c, rfl⟩ := h.shape
  rw [zN_len]
  have HV := Lib.hid h
  have HS := Lib.hid hS
  have hmk := RI.make1 w 24 4 (.bool false) 1 rfl Tryd.underlying24 infoBool N (by omega) (by decide)
  obtain ⟨w1, hw1⟩ := named (w.alloc (.cells (List.replicate N (.bool false)).toArray 4))
  have hb1 : Below w.heap.size w w1 := by rw [hw1]; exact below_alloc1 _
  have k1 : Blk w1 w.heap.size (bolB (markL N (S.take 0))) 4 := by rw [hw1, List.take_zero, markL_nil, bolB_rep]; exact Blk.new _ _ _ _ rfl
  rw [← hw1] at hmk
  have HB1 := Lib.hid hb1
  have HK1 := Lib.hid k1
  clear h hS hb1 k1 hw1
  go_enter Tryd.func30, Tryd.ntmps30
  go_wp2_with fail
  clear hmk
  go_loopw [7, 12] (fun _ iv wr => ∃ k : Nat, k ≤ S.length ∧ iv = .int .i64 k ∧ Blk wr w.heap.size (bolB (markL N (S.take k))) 4 ∧ Below w.heap.size w wr) (fun _ iv _ => S.length - (intOf iv).toNat)
  case atStart => exact ⟨0, Nat.zero_le _, rfl, HK1.out, HB1.out⟩
  case round =>
    obtain ⟨k, hk, rfl, hkb, hb⟩ := hrel
    by_cases hlt : k < S.length
    · have hki : (k : Int) < (S.length : Int) := by omega
      have hzl := zN_len S
      have HV2 : Hid (I64s wr (.slice q S.length c) (zN S)) := Lib.hid (by have := HV.out.below hb; rwa [zN_len] at this)
      obtain ⟨eb, eo, rfl, ec⟩ := HV2.out.at (k := k) (by omega)
      obtain ⟨x, hx⟩ : ∃ x, S[k] = x := ⟨_, rfl⟩
      rw [show (zN S)[k]'(by omega) = (x : Int) from by simp [zN, hx]] at ec
      have hxN : x < N := HS.out x (by rw [← hx]; exact List.getElem_mem hlt)
      have hxi : (x : Int) < (N : Int) := by omega
      have hel := World.block_lt_of_cell? wr _ ec
      have xc := hkb.cell x (bolB_at (l := markL N (S.take k)) (by rw [markL_len]; exact hxN))
      have xf := hkb.free x
      have xl := hkb.lt
      have hk2 := hkb.set x (.bool true)
      rw [bolB_set, markL_snoc, show S.take k ++ [x] = S.take (k + 1) from by rw [List.take_succ_eq_append_getElem hlt, hx]] at hk2
      have HR : Hid (Blk (wr.setCell ⟨w.heap.size, x, none⟩ (.bool true)) w.heap.size (bolB (markL N (S.take (k + 1)))) 4 ∧ Below w.heap.size w (wr.setCell ⟨w.heap.size, x, none⟩ (.bool true))) := Lib.hid ⟨hk2, hb.setCell (Nat.le_refl _) _⟩
      clear hk2 hkb hb hx HK1 HB1 hzl
      go_wp2_with fail
      go_roundw
      case rel => exact ⟨k + 1, hlt, by go_num, HR.out.1, HR.out.2⟩
      case measure => simp [intOf]; omega
    · obtain rfl : k = S.length := by omega
      have HP := Lib.hid (And.intro hkb hb)
      clear hkb hb HK1 HB1
      go_wp2_with fail
      go_ret
      refine ⟨rfl, ?_, HP.out.2⟩
      have := HP.out.1
      rwa [List.take_length] at this
end Go.Proofs.YtleheaffipokfaaDoor
