/-
  The document's own sides of a flow.
-/
import Derived.Test.YtleheaffipokfaaDoorFlPd
import Derived.Test.YtleheaffipokfaaDoorFlQ
namespace Go.Proofs.YtleheaffipokfaaDoor
open Go.ChangeShapes Go.WideShapes Go.RowKit

def Neg1 (w : World) (bb : Nat) (f : List Int) (iv : Value) (wr : World) : Prop := ∃ (k : Nat) (m : List Int), k ≤ f.length ∧ iv = .int .i64 k ∧ m.length = f.length ∧ (∀ i, i < k → fL m i = 0 - fL f i) ∧ Blk wr bb (numI m) 3 ∧ Below w.heap.size w wr
structure SidM (w : World) (N nb gb o1 o2 : Nat) (l1 l2 : List Int) (k : Nat) (A B : List Bool) (wr : World) : Prop where
  kn : Blk wr nb (bolB A) 4
  kg : Blk wr gb (bolB B) 4
  k1 : Blk wr o1 (numI l1) 3
  k2 : Blk wr o2 (numI l2) 3
  b : Below w.heap.size w wr
  la : A.length = N
  lb : B.length = N
  va : ∀ i, i < k → setB A i = (byL l1 i != -2)
  vb : ∀ i, i < k → setB B i = (byL l2 i == -2)
theorem SidM.step {w : World} {N nb gb o1 o2 : Nat} {l1 l2 : List Int} {k : Nat} {A B : List Bool} {wr : World} (h : SidM w N nb gb o1 o2 l1 l2 k A B wr) (hk : k < N) (hn : w.heap.size ≤ nb) (hg : w.heap.size ≤ gb) (hne : nb ≠ gb) {x y : Bool} (hx : (byL l1 k != -2) = x) (hy : (byL l2 k == -2) = y) :
    SidM w N nb gb o1 o2 l1 l2 (k + 1) (A.set k x) (B.set k y) ((wr.setCell ⟨nb, k, none⟩ (.bool x)).setCell ⟨gb, k, none⟩ (.bool y)) := by
  subst hx hy
  have e1 := h.kn.set k (.bool (byL l1 k != -2))
  rw [bolB_set] at e1
  have e2 := (h.kg.other k (.bool (byL l1 k != -2)) hne.symm).set k (.bool (byL l2 k == -2))
  rw [bolB_set] at e2
  have n1 := blk_ne h.k1 h.kn (by decide)
  have n2 := blk_ne h.k1 h.kg (by decide)
  have n3 := blk_ne h.k2 h.kn (by decide)
  have n4 := blk_ne h.k2 h.kg (by decide)
  refine ⟨e1.other _ _ hne, e2, (h.k1.other _ _ n1).other _ _ n2, (h.k2.other _ _ n3).other _ _ n4, (h.b.setCell hn _).setCell hg _, by rw [List.length_set]; exact h.la, by rw [List.length_set]; exact h.lb, fun i hi => ?_, fun i hi => ?_⟩
  · by_cases e : i = k
    · subst e
      rw [setB_set _ (by rw [h.la]; exact hk), if_pos rfl]
    · by_cases hl : i < A.length
      · rw [setB_set _ hl, if_neg (by omega)]
        exact h.va i (by omega)
      · rw [h.la] at hl
        omega
  · by_cases e : i = k
    · subst e
      rw [setB_set _ (by rw [h.lb]; exact hk), if_pos rfl]
    · by_cases hl : i < B.length
      · rw [setB_set _ hl, if_neg (by omega)]
        exact h.vb i (by omega)
      · rw [h.lb] at hl
        omega
def SidR (w : World) (N nb gb o1 o2 : Nat) (l1 l2 : List Int) (iv : Value) (wr : World) : Prop := ∃ (k : Nat) (A B : List Bool), k ≤ N ∧ iv = .int .i64 k ∧ SidM w N nb gb o1 o2 l1 l2 k A B wr
def SidPost (w : World) (N : Nat) (E : Edg) (f : List Int) (S D : List Nat) (e : Ending) (w' : World) : Prop := ∃ (nb gb : Nat) (A B : List Bool), e = .returned (.tuple #[.slice (some ⟨nb, 0, none⟩) N N, .slice (some ⟨gb, 0, none⟩) N N]) ∧ Blk w' nb (bolB A) 4 ∧ Blk w' gb (bolB B) 4 ∧ A.length = N ∧ B.length = N ∧ (∀ v, v < N → (setB A v = true ↔ Rch E f 1 (setB (markL N S)) v)) ∧ (∀ v, v < N → (setB B v = false ↔ Rch E f (-1) (setB (markL N D)) v)) ∧ Below w.heap.size w w'
set_option maxHeartbeats 4000000 in
set_option maxRecDepth 100000 in
theorem sidesR_is {w : World} {ev fv sv dv : Value} {N : Nat} {E : Edg} {f : List Int} {S D : List Nat} (he : Prs w ev (zE E)) (hf : I64s w fv f) (hs : I64s w sv (zN S)) (hd : I64s w dv (zN D)) (hn : N ≤ 4096) (hl : E.length ≤ 16384) (hsl : S.length ≤ 1000000) (hdl : D.length ≤ 1000000) (hfl : f.length = E.length) (hf1 : ∀ i, i < f.length → -1 ≤ fL f i ∧ fL f i ≤ 1) (hE : EdgIn N E) (hS : ∀ x, x ∈ S → x < N) (hD : ∀ x, x ∈ D → x < N) :
    Calls Tryd.prog 22 #[.int .i64 N, ev, fv, sv, dv] w (SidPost w N E f S D) := by
  obtain ⟨fq0, fc0, rfl⟩ := hf.shape
  obtain ⟨a1, ha1⟩ := named (w.alloc (.cells (List.replicate N (.bool false)).toArray 4))
  obtain ⟨nb, hnb⟩ : ∃ nb, w.heap.size = nb := ⟨_, rfl⟩
  have b1 : Below w.heap.size w a1 := by rw [ha1]; exact below_alloc1 _
  have kn1 : Blk a1 nb (bolB (List.replicate N false)) 4 := by rw [ha1, bolB_rep]; exact Blk.new _ _ _ _ hnb
  obtain ⟨a2, ha2⟩ := named (a1.alloc (.cells (List.replicate N (.bool false)).toArray 4))
  obtain ⟨gb, hgb⟩ : ∃ gb, a1.heap.size = gb := ⟨_, rfl⟩
  have b2 : Below a1.heap.size a1 a2 := by rw [ha2]; exact below_alloc1 _
  have kg2 : Blk a2 gb (bolB (List.replicate N false)) 4 := by rw [ha2, bolB_rep]; exact Blk.new _ _ _ _ hgb
  have hmk1 := RI.make1 w 24 4 (.bool false) 1 rfl Tryd.underlying24 infoBool N (by omega) (by decide)
  have hmk2 := RI.make1 a1 24 4 (.bool false) 1 rfl Tryd.underlying24 infoBool N (by omega) (by decide)
  rw [← ha1, hnb] at hmk1
  rw [← ha2, hgb] at hmk2
  have b12 := bOn6 b1 b2
  have HE := Lib.hid (he.below b12)
  have HF := Lib.hid (hf.below b12)
  have HS := Lib.hid (hs.below b12)
  have HD := Lib.hid (hd.below b12)
  have HB := Lib.hid b12
  have HKN := Lib.hid (kn1.keep b2)
  have HKG := Lib.hid kg2
  have HNE : Hid (nb ≠ gb ∧ w.heap.size ≤ nb ∧ w.heap.size ≤ gb) := Lib.hid ⟨by have := kn1.lt; omega, by omega, by have := kn1.lt; omega⟩
  have HN : Hid (N ≤ 4096 ∧ E.length ≤ 16384 ∧ f.length = E.length) := Lib.hid ⟨hn, hl, hfl⟩
  have HF1 := Lib.hid hf1
  clear he hf hs hd b1 b2 b12 kn1 kg2 ha1 ha2 hf1 hfl
  go_enter Tryd.func22, Tryd.ntmps22
  go_wp2_with fail
  clear hmk1 hmk2 hnb hgb
  refine (reach_is HE.out HF.out HS.out hn hl hsl HN.out.2.2 hE hS).mono ?_
  rintro e w3 ⟨o1, l1, rfl, hk1, ho1, hl1, hr1, hb⟩
  have HE_ := Lib.hid (HE.out.below hb)
  have HF_ := Lib.hid (HF.out.below hb)
  have HD_ := Lib.hid (HD.out.below hb)
  have HB_ := Lib.hid (bOn6 HB.out hb)
  have HKN_ := Lib.hid (HKN.out.keep hb)
  have HKG_ := Lib.hid (HKG.out.keep hb)
  have HK1 := Lib.hid hk1
  have HL1 := Lib.hid hl1
  have HR1 := Lib.hid hr1
  clear HE HF HS HD HB HKN HKG hk1 ho1 hl1 hr1 hb
  obtain ⟨a4, ha4⟩ := named (w3.alloc (.cells (List.replicate f.length (.int .i64 0)).toArray 3))
  obtain ⟨bb, hbb⟩ : ∃ bb, w3.heap.size = bb := ⟨_, rfl⟩
  have HB4 : Hid (Below w3.heap.size w3 a4) := Lib.hid (by rw [ha4]; exact below_alloc1 _)
  have HK4 : Hid (Blk a4 bb (numI (List.replicate f.length 0)) 3) := Lib.hid (by rw [ha4, numI_rep]; exact Blk.new _ _ _ _ hbb)
  have HBB : Hid (w3.heap.size = bb) := Lib.hid hbb
  have hmk := RI.make1 w3 23 3 (.int .i64 0) 8 rfl Tryd.underlying23 infoInt f.length (by have := HN.out; omega) (by decide)
  rw [← ha4, hbb] at hmk
  clear ha4
  go_wp2_with fail
  clear hmk hbb
  go_loopw [16] (fun iv wr => Neg1 w3 bb f iv wr) (fun iv _ => f.length - (intOf iv).toNat)
  case atStart => exact ⟨0, _, Nat.zero_le _, rfl, by simp, fun i h => by omega, HK4.out, HB4.out⟩
  case round =>
    clear HK4 HB4
    obtain ⟨k, m, hk, rfl, hml, hmv, hkb, hb⟩ := hrel
    by_cases hlt : k < f.length
    · have hki : (k : Int) < (f.length : Int) := by omega
      have hf9 : f.length ≤ 16384 := by have := HN.out; omega
      obtain ⟨fb, fo, rfl, fc⟩ := (HF_.out.below hb).at (k := k) hlt
      obtain ⟨x, hx⟩ : ∃ x, f[k] = x := ⟨_, rfl⟩
      rw [hx] at fc
      have hfx : fL f k = x := by rw [← hx]; simp [fL, hlt]
      have hx1 := HF1.out k hlt
      rw [hfx] at hx1
      have hwx : IntKind.i64.wrap (-x) = -x := IntWalk.i64_in _ (by omega)
      have hfl9 := World.block_lt_of_cell? _ _ fc
      obtain ⟨u0, xc⟩ : ∃ u0, wr.cell? ⟨bb, k, none⟩ = some u0 := ⟨_, hkb.cell k (numI_at (l := m) (by omega))⟩
      have xf := hkb.free k
      have xl := hkb.lt
      have hk2 := hkb.set k (.int .i64 (-x))
      rw [numI_set] at hk2
      have HR : Hid (Blk (wr.setCell ⟨bb, k, none⟩ (.int .i64 (-x))) bb (numI (m.set k (-x))) 3 ∧ Below w3.heap.size w3 (wr.setCell ⟨bb, k, none⟩ (.int .i64 (-x)))) := Lib.hid ⟨hk2, hb.setCell (Nat.le_of_eq HBB.out) _⟩
      have HV : Hid (∀ i, i < k + 1 → fL (m.set k (-x)) i = 0 - fL f i) := Lib.hid fun i hi => by
        by_cases e : i = k
        · subst e
          rw [hfx]
          simp [fL, hml, hlt]
        · rw [← hmv i (by omega)]
          unfold fL
          rw [List.getD_eq_getElem?_getD, List.getD_eq_getElem?_getD, List.getElem?_set_ne (by omega)]
      have HL : Hid ((m.set k (-x)).length = f.length) := Lib.hid (by rw [List.length_set]; exact hml)
      clear hk2 hkb hb hml hmv hx hfx hx1
      go_wp2_with fail
      go_roundw
      case rel => exact ⟨k + 1, m.set k (-x), hlt, by go_num, HL.out, HV.out, HR.out.1, HR.out.2⟩
      case measure => simp [intOf]; omega
    · obtain rfl : k = f.length := by omega
      obtain rfl : m = f.map (fun x => 0 - x) := List.ext_getElem (by simpa using hml) fun i h1 h2 => by
        have := hmv i (by omega)
        simp only [fL, List.getD_eq_getElem?_getD, List.getElem?_eq_getElem h1, List.getElem?_eq_getElem (show i < f.length by omega), Option.getD_some] at this
        simp [this]
      have HE := Lib.hid (HE_.out.below hb)
      have HD := Lib.hid (HD_.out.below hb)
      have HB := Lib.hid (bOn6 HB_.out hb)
      have HKN := Lib.hid (HKN_.out.keep hb)
      have HKG := Lib.hid (HKG_.out.keep hb)
      have HK1' := Lib.hid (HK1.out.keep hb)
      have HNB : Hid (I64s wr (.slice (some ⟨bb, 0, none⟩) f.length f.length) (f.map fun x => 0 - x)) := Lib.hid (by
        refine Or.inr ⟨by rw [hml]; have := HN.out; omega, bb, 0, f.length, by rw [hml]; exact Nat.le_refl _, by have := HN.out; omega, by rw [hml], fun i hi => ?_⟩
        rw [Nat.zero_add]
        exact hkb.cell i (numI_at hi))
      clear HE_ HF_ HD_ HB_ HKN_ HKG_ HK1 hkb hb hml hmv hlt hk
      go_wp2_with fail
      refine (reach_is HE.out HNB.out HD.out hn hl hdl (by rw [List.length_map]; exact HN.out.2.2) hE hD).mono ?_
      rintro e w5 ⟨o2, l2, rfl, hk2, ho2, hl2, hr2, hb⟩
      have HM : Hid (SidM w N nb gb o1 o2 l1 l2 0 (List.replicate N false) (List.replicate N false) w5) := Lib.hid ⟨HKN.out.keep hb, HKG.out.keep hb, HK1'.out.keep hb, hk2, bOn6 HB.out hb, by simp, by simp, fun i h => by omega, fun i h => by omega⟩
      have HL2 := Lib.hid hl2
      have HR2 := Lib.hid hr2
      clear HE HD HB HKN HKG HK1' HNB hk2 ho2 hl2 hr2 hb
      go_wp2_with fail
      go_loopw [18] (fun iv wr => SidR w N nb gb o1 o2 l1 l2 iv wr) (fun iv _ => N - (intOf iv).toNat)
      case atStart => exact ⟨0, _, _, Nat.zero_le _, rfl, HM.out⟩
      case round =>
        clear HM
        obtain ⟨j, A, B, hj, rfl, hm⟩ := hrel
        have HM := Lib.hid hm
        by_cases hlt : j < N
        · have hji : (j : Int) < (N : Int) := by omega
          have hn9 := HN.out.1
          have c1 := hm.k1.cell j (numI_at (l := l1) (by rw [HL1.out]; exact hlt))
          have c2 := hm.k2.cell j (numI_at (l := l2) (by rw [HL2.out]; exact hlt))
          rw [← byL_at] at c1 c2
          have t1 := hm.k1.lt
          have t2 := hm.k2.lt
          obtain ⟨u3, c3⟩ : ∃ u3, wr.cell? ⟨nb, j, none⟩ = some u3 := ⟨_, hm.kn.cell j (bolB_at (l := A) (by rw [hm.la]; exact hlt))⟩
          have t3 := hm.kn.lt
          have f3 := hm.kn.free j
          obtain ⟨x, hx⟩ : ∃ x, (byL l1 j != -2) = x := ⟨_, rfl⟩
          obtain ⟨y, hy⟩ : ∃ y, (byL l2 j == -2) = y := ⟨_, rfl⟩
          have HST := Lib.hid (hm.step hlt HNE.out.2.1 HNE.out.2.2 HNE.out.1 hx hy)
          obtain ⟨w8, hw8⟩ := named (wr.setCell ⟨nb, j, none⟩ (.bool x))
          have k28 : Blk w8 o2 (numI l2) 3 := by rw [hw8]; exact hm.k2.other _ _ (blk_ne hm.k2 hm.kn (by decide))
          have kg8 : Blk w8 gb (bolB B) 4 := by rw [hw8]; exact hm.kg.other _ _ HNE.out.1.symm
          have c28 := k28.cell j (numI_at (l := l2) (by rw [HL2.out]; exact hlt))
          rw [← byL_at] at c28
          have t28 := k28.lt
          obtain ⟨u4, c4⟩ : ∃ u4, w8.cell? ⟨gb, j, none⟩ = some u4 := ⟨_, kg8.cell j (bolB_at (l := B) (by rw [hm.lb]; exact hlt))⟩
          have t4 := kg8.lt
          have f4 := kg8.free j
          have HW8 := Lib.hid hw8
          have e8 := hw8.symm
          clear hm hw8 k28 kg8
          go_wp2_with fail
          go_roundw
          case rel => exact ⟨j + 1, _, _, hlt, by go_num, by have := HST.out; rwa [← HW8.out] at this⟩
          case measure => simp [intOf]; omega
        · obtain rfl : j = N := by omega
          have HP : Hid (SidPost w j E f S D (.returned (.tuple #[.slice (some ⟨nb, 0, none⟩) j j, .slice (some ⟨gb, 0, none⟩) j j])) wr) := Lib.hid ⟨nb, gb, A, B, rfl, hm.kn, hm.kg, hm.la, hm.lb, fun v hv => by
            rw [hm.va v hv, ← HR1.out v hv]
            simp, fun v hv => by
            rw [hm.vb v hv, ← rch_neg, ← HR2.out v hv]
            simp, hm.b⟩
          clear HM hm hlt hj
          go_wp2_with fail
          exact bodyPost_ret (v := .tuple #[.slice (some ⟨nb, 0, none⟩) j j, .slice (some ⟨gb, 0, none⟩) j j]) (by simp [results, Tryd.results22, go_sem]) rfl HP.out
end Go.Proofs.YtleheaffipokfaaDoor

/-
  What the document's own Proves asks: plain mathematics, no program stands here.
-/
namespace Go.Proofs.YtleheaffipokfaaDoor

section
variable {N k : Nat} {E : Edg} {f : List Int}
theorem netRow_any {a b : Nat} {x : Int} (h : fL f k = x) (he : eL E k = (a, b)) (hn : a ≠ b ∨ x = 0) : ((netRow N E f k).set a (netTo E f k a + x)).set b (netTo E f k b - x) = netRow N E f (k + 1) := by
  refine List.ext_getElem (by simp [netRow]) fun i h1 h2 => ?_
  rw [List.getElem_set, List.getElem_set, netRow_at, netRow_at, netTo_succ, h, he]
  by_cases hb : b = i
  · subst hb
    rcases hn with hn | rfl
    · simp [hn]
      omega
    · simp
  · by_cases ha : a = i
    · subst ha
      simp [hb]
    · simp [ha, hb]
theorem netRow_mid {a b : Nat} {x : Int} (hn : a ≠ b ∨ x = 0) (hb : b < N) : ((netRow N E f k).set a (netTo E f k a + x))[b]? = some (netTo E f k b) := by
  rw [List.getElem?_set]
  have hl : b < (netRow N E f k).length := by rw [netRow_len]; exact hb
  by_cases e : a = b
  · subst e
    rcases hn with hn | rfl
    · exact absurd rfl hn
    · rw [if_pos rfl, if_pos hl]
      simp
  · rw [if_neg e, List.getElem?_eq_getElem hl, netRow_at]
/-- What is looked at, one by one. -/
theorem prvQ_iff {S D : List Nat} {V : Int} {near far A B : List Bool} (hfl : f.length = E.length) (hD : ∀ x, x ∈ D → x < N)
    (hA : ∀ v, v < N → (setB A v = true ↔ Rch E f 1 (setB (markL N S)) v)) (hB : ∀ v, v < N → (setB B v = false ↔ Rch E f (-1) (setB (markL N D)) v)) :
    PrvQ N E S D V f near far ↔ near.length = N ∧ far.length = N ∧ okTo E f E.length ∧ evenTo E f (setB (markL N S)) (setB (markL N D)) N ∧ V = sumTo E f (setB (markL N S)) N ∧ ∀ v, v < N → setB near v = setB A v ∧ setB far v = setB B v ∧ (setB A v = true → v ∉ D) := by
  constructor
  · intro h
    obtain ⟨h1, h2⟩ := (isFlow_iff hfl).1 h.flow
    refine ⟨h.nl, h.gl, h1, h2, h.val, fun v hv => ⟨?_, ?_, fun ha hd => h.none v hd ((hA v hv).1 ha)⟩⟩
    · exact Bool.eq_iff_iff.2 ((h.near v hv).trans (hA v hv).symm)
    · have := (h.far v hv).trans (hB v hv).symm
      cases e1 : setB far v <;> cases e2 : setB B v <;> simp_all
  · rintro ⟨h1, h2, h3, h4, h5, h6⟩
    refine ⟨(isFlow_iff hfl).2 ⟨h3, h4⟩, h5, h1, h2, fun v hv => ?_, fun v hv => ?_, fun v hv hr => ?_⟩
    · rw [(h6 v hv).1]
      exact hA v hv
    · rw [(h6 v hv).2.1]
      exact hB v hv
    · have hvN := hD v hv
      exact (h6 v hvN).2.2 ((hA v hvN).2 hr) hv
end
end Go.Proofs.YtleheaffipokfaaDoor
