/-
  Does a result prove what it tells: the program's Proves.
-/
import Derived.Test.YtleheaffipokfaaDoorFlG
import Derived.Test.YtleheaffipokfaaDoorFlT
import Derived.Test.YtleheaffipokfaaDoorFlX
namespace Go.Proofs.YtleheaffipokfaaDoor
open Go.RowKit

set_option maxHeartbeats 2000000 in
set_option maxRecDepth 100000 in
theorem equalB_is {w : World} {u v : Value} {L M : List Bool} (hu : Bools w u L) (hv : Bools w v M) {b : Bool} (hb : decide (L = M) = b) :
    Calls Tryd.prog 19 #[u, v] w fun e w' => e = .returned (.bool b) ∧ Below w.heap.size w w' := by
  subst hb
  obtain ⟨uq, uc, rfl⟩ := hu.shape
  obtain ⟨vq, vc, rfl⟩ := hv.shape
  have HU := Lib.hid hu
  have HV := Lib.hid hv
  have hul := hu.le
  clear hu hv
  by_cases hl : L.length = M.length
  case neg =>
    have hd : decide (L = M) = false := by simp; intro e; exact hl (by rw [e])
    rw [hd]
    have hne : ((L.length : Int) != (M.length : Int)) = true := by simp; omega
    go_enter Tryd.func19, Tryd.ntmps19
    go_wp2_with fail
    go_ret
    exact ⟨rfl, Below.refl _ _⟩
  have hne : ((L.length : Int) != (M.length : Int)) = false := by simp; omega
  have HL := Lib.hid hl
  obtain ⟨R, hR⟩ : ∃ R, decide (L = M) = R := ⟨_, rfl⟩
  rw [hR]
  have HR := Lib.hid hR
  clear hl hR
  go_enter Tryd.func19, Tryd.ntmps19
  go_wp2_with fail
  go_loopw [5, 13] (fun _ iv wr => ∃ k : Nat, k ≤ L.length ∧ iv = .int .i64 k ∧ Hid (L.take k = M.take k) ∧ Hid (Below w.heap.size w wr)) (fun _ iv _ => L.length - (intOf iv).toNat)
  case atStart => exact ⟨0, Nat.zero_le _, rfl, Lib.hid (by simp), Lib.hid (Below.refl _ _)⟩
  case round =>
    obtain ⟨k, hk, rfl, HK, HB⟩ := hrel
    by_cases hlt : k < L.length
    · have hki : (k : Int) < (L.length : Int) := by omega
      have hlm : k < M.length := by rw [← HL.out]; exact hlt
      have hkm : (k : Int) < (M.length : Int) := by omega
      obtain ⟨ub, uo, rfl, uc1⟩ := (HU.out.below HB.out).at hlt
      obtain ⟨vb, vo, rfl, vc1⟩ := (HV.out.below HB.out).at hlm
      have h1 := World.block_lt_of_cell? wr _ uc1
      have h2 := World.block_lt_of_cell? wr _ vc1
      have HT1 : Hid (L.take (k + 1) = L.take k ++ [L[k]]) := Lib.hid (List.take_succ_eq_append_getElem hlt)
      have HT2 : Hid (M.take (k + 1) = M.take k ++ [M[k]]) := Lib.hid (List.take_succ_eq_append_getElem hlm)
      have HNE : Hid (L[k] ≠ M[k] → R = false) := Lib.hid fun h => by
        rw [← HR.out]
        simp
        intro e
        subst e
        exact h rfl
      generalize L[k] = x at uc1 HT1 HNE
      generalize M[k] = y at vc1 HT2 HNE
      by_cases hxy : x = y
      · subst hxy
        have hb : (x != x) = false := by simp
        have HN : Hid (L.take (k + 1) = M.take (k + 1)) := Lib.hid (by rw [HT1.out, HT2.out, HK.out])
        clear HNE HT1 HT2
        go_wp2_with fail
        go_quiet (fail)
        have HBN : Hid (Below w.heap.size w (wr.drewN nq)) := Lib.hid (below_drewN HB.out nq)
        go_wp2_with fail
        go_roundw
        case rel => exact ⟨k + 1, hlt, by go_num, HN, HBN⟩
        case measure => simp [intOf]; omega
      · have hb : (x == y) = false := by simpa using hxy
        have hRf := HNE.out hxy
        subst hRf
        clear hxy HNE
        go_wp2_with fail
        go_quiet (fail)
        have HBN : Hid (Below w.heap.size w (wr.drewN nq)) := Lib.hid (below_drewN HB.out nq)
        go_wp2_with fail
        go_ret
        exact ⟨rfl, HBN.out⟩
    · obtain rfl : k = L.length := by omega
      have hRt : R = true := by
        rw [← HR.out]
        have := HK.out
        rw [List.take_length, HL.out, List.take_length] at this
        simpa using this
      subst hRt
      go_wp2_with fail
      go_ret
      exact ⟨rfl, HB.out⟩
/-- A result that proves what it tells. -/
structure PrvQ (N : Nat) (E : Edg) (S D : List Nat) (V : Int) (f : List Int) (near far : List Bool) : Prop where
  flow : IsFlow N E (setB (markL N S)) (setB (markL N D)) f
  val : V = valF N E (setB (markL N S)) f
  nl : near.length = N
  gl : far.length = N
  near : ∀ v, v < N → (setB near v = true ↔ Rch E f 1 (setB (markL N S)) v)
  far : ∀ v, v < N → (setB far v = false ↔ Rch E f (-1) (setB (markL N D)) v)
  none : ∀ v, v ∈ D → ¬ Rch E f 1 (setB (markL N S)) v
def PrvP (n : Int) (l : List (Int × Int)) (src dst : List Int) (V : Int) (f : List Int) (near far : List Bool) : Prop :=
  OkA n l src dst ∧ ¬ Twice src dst ∧ ∃ (N : Nat) (E : Edg) (S D : List Nat), n = N ∧ l = zE E ∧ src = zN S ∧ dst = zN D ∧ PrvQ N E S D V f near far
theorem zN_inj {S T : List Nat} (h : zN S = zN T) : S = T := by
  unfold zN at h
  exact (List.map_inj_right (fun a b e => by omega)).1 h
theorem zE_inj {E F : Edg} (h : zE E = zE F) : E = F := by
  unfold zE at h
  refine (List.map_inj_right (fun a b e => ?_)).1 h
  have := Prod.mk.inj e
  exact Prod.ext (by omega) (by omega)
theorem prvP_iff {N : Nat} {E : Edg} {S D : List Nat} {V : Int} {f : List Int} {near far : List Bool} (h : OkA N (zE E) (zN S) (zN D)) (ht : ¬ Twice (zN S) (zN D)) : PrvP N (zE E) (zN S) (zN D) V f near far ↔ PrvQ N E S D V f near far := by
  constructor
  · rintro ⟨-, -, N', E', S', D', hN, hE, hS, hD, h⟩
    obtain rfl : N = N' := by omega
    obtain rfl := zE_inj hE
    obtain rfl := zN_inj hS
    obtain rfl := zN_inj hD
    exact h
  · exact fun k => ⟨h, ht, N, E, S, D, rfl, rfl, rfl, rfl, k⟩
def PrvPost (w : World) (Q : Prop) (e : Ending) (w' : World) : Prop := ∃ b, e = .returned (.bool b) ∧ (b = true ↔ Q) ∧ Below w.heap.size w w'
theorem setB_ext {L M : List Bool} (h : L.length = M.length) (hv : ∀ v, v < L.length → (setB L v = true ↔ setB M v = true)) : L = M := by
  refine List.ext_getElem h fun i h1 h2 => ?_
  have := hv i h1
  rw [setB_at h1, setB_at h2] at this
  cases ha : L[i] <;> cases hb : M[i] <;> simp_all
section
variable {w : World} {n : Int} {l : List (Int × Int)} {src dst : List Int} {ev sv dv fv nv gv : Value} {V : Int} {f : List Int} {near far : List Bool}
set_option maxHeartbeats 4000000 in
set_option maxRecDepth 100000 in
theorem proves_is (he : Prs w ev l) (hs : I64s w sv src) (hd : I64s w dv dst) (hf : I64s w fv f) (hnv : Bools w nv near) (hgv : Bools w gv far) (hn : n ≤ 4096) (hl : l.length ≤ 16384) (hsl : src.length ≤ 1000000) (hdl : dst.length ≤ 1000000) :
    Calls Tryd.prog 5 #[.int .i64 n, ev, sv, dv, .agg #[.int .i64 V, fv, nv, gv]] w (PrvPost w (PrvP n l src dst V f near far)) := by
  obtain ⟨fq, fc, rfl⟩ := hf.shape
  obtain ⟨nq, nc, rfl⟩ := hnv.shape
  obtain ⟨gq, gc, rfl⟩ := hgv.shape
  obtain ⟨eq0, ec0, rfl⟩ := he.shape
  obtain ⟨W0, hW0⟩ := named (w.alloc (.cells #[.int .i64 V, .slice fq f.length fc, .slice nq near.length nc, .slice gq far.length gc] 30))
  have hb0 : Below w.heap.size w W0 := by rw [hW0]; exact below_alloc1 _
  obtain ⟨rb, hrb⟩ : ∃ rb, w.heap.size = rb := ⟨_, rfl⟩
  have kr : Blk W0 rb #[.int .i64 V, .slice fq f.length fc, .slice nq near.length nc, .slice gq far.length gc] 30 := by rw [hW0]; exact Blk.new _ _ _ _ hrb
  have HE := Lib.hid (he.below hb0)
  have HS := Lib.hid (hs.below hb0)
  have HD := Lib.hid (hd.below hb0)
  have HF := Lib.hid (hf.below hb0)
  have HNV := Lib.hid (hnv.below hb0)
  have HGV := Lib.hid (hgv.below hb0)
  have HB0 := Lib.hid hb0
  have KR := Lib.hid kr
  have e0 := hW0.symm
  clear he hs hd hf hnv hgv hb0 kr hW0
  go_enter Tryd.func5, Tryd.ntmps5
  go_wp2_with fail
  clear e0
  refine (check_is HE.out HS.out HD.out hn hl hsl hdl).mono ?_
  rintro e w1 ⟨hb1, ⟨hok, htw, rfl⟩ | ⟨hok, htw, g, rfl, -⟩ | ⟨hok, g, rfl⟩⟩
  case inr.inl =>
    have HP : Hid (PrvPost w (PrvP n l src dst V f near far) (.returned (.bool false)) w1) := Lib.hid ⟨false, rfl, ⟨fun h => (by cases h), fun h => absurd htw h.2.1⟩, bOn6 HB0.out hb1⟩
    clear hok htw hb1
    go_wp2_with fail
    go_ret
    exact HP.out
  case inr.inr =>
    have HP : Hid (PrvPost w (PrvP n l src dst V f near far) (.returned (.bool false)) w1) := Lib.hid ⟨false, rfl, ⟨fun h => (by cases h), fun h => absurd h.1 hok⟩, bOn6 HB0.out hb1⟩
    clear hok hb1
    go_wp2_with fail
    go_ret
    exact HP.out
  obtain ⟨N, E, S, D, hN, hE, hEI, hS, hD, hSN, hDN⟩ := hok.edges
  subst hN hE hS hD
  rw [zN_len] at hsl hdl
  rw [zE_len] at hl
  rw [zE_len]
  have hnat : N ≤ 4096 := by omega
  have HZ := Lib.hid (zE_len E)
  have HIFF := Lib.hid (prvP_iff (V := V) (f := f) (near := near) (far := far) hok htw)
  have HEI := Lib.hid hEI
  have HSN := Lib.hid hSN
  have HDN := Lib.hid hDN
  have HSL := Lib.hid hsl
  have HDL := Lib.hid hdl
  have HEL := Lib.hid hl
  have HB1 := Lib.hid (bOn6 HB0.out hb1)
  have HE1 : Hid (Prs w1 (.slice eq0 E.length ec0) (zE E)) := Lib.hid (by have := HE.out.below hb1; rwa [zE_len] at this)
  have HS1 := Lib.hid (HS.out.below hb1)
  have HD1 := Lib.hid (HD.out.below hb1)
  have HF1 := Lib.hid (HF.out.below hb1)
  have HNV1 := Lib.hid (HNV.out.below hb1)
  have HGV1 := Lib.hid (HGV.out.below hb1)
  have KR1 := Lib.hid (KR.out.keep hb1)
  obtain ⟨c0, c1, c2, c3, -⟩ := KR1.out.o4
  have hrl := KR1.out.lt
  clear hok htw hEI hSN hDN hsl hdl hb1 HB0 HE HS HD HF HNV HGV KR
  by_cases hfl : f.length = E.length
  case neg =>
    have HP : Hid (PrvPost w (PrvP N (zE E) (zN S) (zN D) V f near far) (.returned (.bool false)) w1) := Lib.hid ⟨false, rfl, ⟨fun h => (by cases h), fun h => absurd (HIFF.out.1 h).flow.len hfl⟩, HB1.out⟩
    have hne : ((f.length : Int) != (E.length : Int)) = true := by simp; omega
    clear hfl
    go_wp2_with fail
    go_ret
    exact HP.out
  have hne : ((f.length : Int) != (E.length : Int)) = false := by simp; omega
  have HFL := Lib.hid hfl
  clear hfl
  go_wp2_with fail
  refine (webOf_is (P := fun _ => True) HE1.out (fun _ _ _ _ _ _ _ => trivial) HEI.out hnat HEL.out HS1.out HSN.out HSL.out HD1.out HDN.out HDL.out ⟨_, _, _, rfl⟩ (fun _ _ => trivial)).mono ?_
  rintro e w2 ⟨p, ab, us, sv2, dv2, rfl, hw, -, -, hb2⟩
  have HW2 := Lib.hid hw
  have HB2 := Lib.hid (bOn6 HB1.out hb2)
  have HD2 := Lib.hid (HD1.out.below hb2)
  have HF2 := Lib.hid (HF1.out.below hb2)
  have HNV2 := Lib.hid (HNV1.out.below hb2)
  have HGV2 := Lib.hid (HGV1.out.below hb2)
  have KR2 := Lib.hid (KR1.out.keep hb2)
  clear hw hb2 c0 c1 c2 c3 hrl HE1 HS1 HD1 HF1 HNV1 HGV1 KR1 HB1
  go_wp2_with fail
  refine (value_is HW2.out HF2.out HFL.out).mono ?_
  rintro e w3 ⟨W, ok, rfl, hok, hval, hb3⟩
  have HOK := Lib.hid hok
  have HVAL := Lib.hid hval
  have HW3 := Lib.hid (HW2.out.old hb3)
  have HB3 := Lib.hid (bOn6 HB2.out hb3)
  have HD3 := Lib.hid (HD2.out.below hb3)
  have HF3 := Lib.hid (HF2.out.below hb3)
  have HNV3 := Lib.hid (HNV2.out.below hb3)
  have HGV3 := Lib.hid (HGV2.out.below hb3)
  have KR3 := Lib.hid (KR2.out.keep hb3)
  clear hok hval hb3 HW2 HD2 HF2 HNV2 HGV2 KR2 HB2
  go_wp2_with fail
  refine (sides_is HW3.out HF3.out HFL.out).mono ?_
  rintro e w4 ⟨nv4, gv4, near4, far4, rfl, hn4, hg4, hnl, hgl, hnr, hgr, hb4, -, -⟩
  obtain ⟨nq4, nc4, rfl⟩ := hn4.shape
  obtain ⟨gq4, gc4, rfl⟩ := hg4.shape
  obtain ⟨W5, hW5⟩ := named (w4.alloc (.cells #[.slice nq4 near4.length nc4] 24))
  have hb5 : Below w4.heap.size w4 W5 := by rw [hW5]; exact below_alloc1 _
  obtain ⟨gb, hgb⟩ : ∃ gb, w4.heap.size = gb := ⟨_, rfl⟩
  have kg : Blk W5 gb #[.slice nq4 near4.length nc4] 24 := by rw [hW5]; exact Blk.new _ _ _ _ hgb
  have hb45 := bOn6 hb4 hb5
  have HB5 := Lib.hid (bOn6 HB3.out hb45)
  have HN5 := Lib.hid (hn4.below hb5)
  have HG5 := Lib.hid (hg4.below hb5)
  have HD5 := Lib.hid (HD3.out.below hb45)
  have HNV5 := Lib.hid (HNV3.out.below hb45)
  have HGV5 := Lib.hid (HGV3.out.below hb45)
  have KR5 := Lib.hid (KR3.out.keep hb45)
  have KG5 := Lib.hid kg
  have HNL := Lib.hid hnl
  have HGL := Lib.hid hgl
  have HNR := Lib.hid hnr
  have HGR := Lib.hid hgr
  have e5 := hW5.symm
  clear hn4 hg4 hnl hgl hnr hgr hb4 hb5 hb45 kg hW5 HW3 HD3 HF3 HNV3 HGV3 KR3 HB3
  go_wp2_with fail
  clear e5
  refine (containsP_is KG5.out.o1.1 HN5.out HD5.out (by rw [HNL.out]; exact HDN.out) HDL.out).mono ?_
  rintro e w6 ⟨rd, rfl, hrd, rfl⟩
  have HNONE : Hid (rd = false ↔ ∀ v, v ∈ D → ¬ Rch E f 1 (setB (markL N S)) v) := Lib.hid (by
    constructor
    · intro h v hv hr
      have := hrd.2 ⟨v, hv, (HNR.out v (HDN.out v hv)).2 hr⟩
      rw [h] at this
      cases this
    · intro h
      cases rd with
      | false => rfl
      | true =>
        obtain ⟨x, hx, hm⟩ := hrd.1 rfl
        exact absurd ((HNR.out x (HDN.out x hx)).1 hm) (h x hx))
  have HNE : Hid (∀ b, decide (near = near4) = b → (b = true ↔ near.length = N ∧ ∀ v, v < N → (setB near v = true ↔ Rch E f 1 (setB (markL N S)) v))) := Lib.hid fun b hb => by
    rw [← hb]
    simp only [decide_eq_true_eq]
    constructor
    · rintro rfl
      exact ⟨HNL.out, HNR.out⟩
    · rintro ⟨h1, h2⟩
      exact setB_ext (by rw [h1, HNL.out]) (fun v hv => by rw [h1] at hv; rw [h2 v hv, HNR.out v hv])
  have HGE : Hid (∀ b, decide (far = far4) = b → (b = true ↔ far.length = N ∧ ∀ v, v < N → (setB far v = false ↔ Rch E f (-1) (setB (markL N D)) v))) := Lib.hid fun b hb => by
    rw [← hb]
    simp only [decide_eq_true_eq]
    constructor
    · rintro rfl
      exact ⟨HGL.out, HGR.out⟩
    · rintro ⟨h1, h2⟩
      refine setB_ext (by rw [h1, HGL.out]) (fun v hv => ?_)
      rw [h1] at hv
      have k1 := h2 v hv
      have k2 := HGR.out v hv
      cases ha : setB far v <;> cases hb : setB far4 v <;> simp_all
  have HQ : Hid (PrvP N (zE E) (zN S) (zN D) V f near far ↔ ok = true ∧ rd = false ∧ V = W ∧ (near.length = N ∧ ∀ v, v < N → (setB near v = true ↔ Rch E f 1 (setB (markL N S)) v)) ∧ (far.length = N ∧ ∀ v, v < N → (setB far v = false ↔ Rch E f (-1) (setB (markL N D)) v))) := Lib.hid (by
    rw [HIFF.out]
    constructor
    · intro h
      have h1 := HOK.out.2 h.flow
      exact ⟨h1, HNONE.out.2 h.none, h.val.trans (HVAL.out h1).symm, ⟨h.nl, h.near⟩, h.gl, h.far⟩
    · rintro ⟨h1, h2, h3, h4, h5⟩
      exact ⟨HOK.out.1 h1, h3.trans (HVAL.out h1), h4.1, h5.1, h4.2, h5.2, HNONE.out.1 h2⟩)
  obtain ⟨c0, c1, c2, c3, -⟩ := KR5.out.o4
  have hrl := KR5.out.lt
  obtain ⟨k0, -⟩ := KG5.out.o1
  have hkl := KG5.out.lt
  clear hrd HNONE HIFF HVAL HOK
  cases ok with
  | false =>
    have HP : Hid (PrvPost w (PrvP N (zE E) (zN S) (zN D) V f near far) (.returned (.bool false)) W5) := Lib.hid ⟨false, rfl, by rw [HQ.out]; simp, HB5.out⟩
    clear HQ
    go_wp2_with fail
    go_ret
    exact HP.out
  | true =>
    cases rd with
    | true =>
      have HP : Hid (PrvPost w (PrvP N (zE E) (zN S) (zN D) V f near far) (.returned (.bool false)) W5) := Lib.hid ⟨false, rfl, by rw [HQ.out]; simp, HB5.out⟩
      clear HQ
      go_wp2_with fail
      go_ret
      exact HP.out
    | false =>
      by_cases hvw : V = W
      case neg =>
        have HP : Hid (PrvPost w (PrvP N (zE E) (zN S) (zN D) V f near far) (.returned (.bool false)) W5) := Lib.hid ⟨false, rfl, by rw [HQ.out]; simp [hvw], HB5.out⟩
        have hb : (V == W) = false := by simpa using hvw
        clear HQ hvw
        go_wp2_with fail
        go_ret
        exact HP.out
      have hb : (V == W) = true := by simpa using hvw
      obtain ⟨b1, hb1⟩ : ∃ b, decide (near = near4) = b := ⟨_, rfl⟩
      obtain ⟨b2, hb2⟩ : ∃ b, decide (far = far4) = b := ⟨_, rfl⟩
      have HB1 := Lib.hid hb1
      have HB2 := Lib.hid hb2
      have HVW := Lib.hid hvw
      clear hb1 hb2 hvw
      go_wp2_with fail
      clear c0 c1 c2 c3 hrl k0 hkl
      refine (equalB_is HNV5.out HN5.out HB1.out).mono ?_
      rintro e w7 ⟨rfl, hb7⟩
      have HB7 := Lib.hid (bOn6 HB5.out hb7)
      have HG7 := Lib.hid (HG5.out.below hb7)
      have HGV7 := Lib.hid (HGV5.out.below hb7)
      have KR7 := Lib.hid (KR5.out.keep hb7)
      clear hb7
      cases b1 with
      | false =>
        have HP : Hid (PrvPost w (PrvP N (zE E) (zN S) (zN D) V f near far) (.returned (.bool false)) w7) := Lib.hid ⟨false, rfl, ⟨fun h => (by cases h), fun h => by
          have := (HNE.out false HB1.out).2 (HQ.out.1 h).2.2.2.1
          cases this⟩, HB7.out⟩
        clear HQ HNE HGE
        go_wp2_with fail
        go_ret
        exact HP.out
      | true =>
        obtain ⟨c0, c1, c2, c3, -⟩ := KR7.out.o4
        have hrl := KR7.out.lt
        go_wp2_with fail
        clear c0 c1 c2 c3 hrl
        refine (equalB_is HGV7.out HG7.out HB2.out).mono ?_
        rintro e w8 ⟨rfl, hb8⟩
        have HP : Hid (PrvPost w (PrvP N (zE E) (zN S) (zN D) V f near far) (.returned (.bool b2)) w8) := Lib.hid ⟨b2, rfl, by
          rw [HQ.out, ← HNE.out true HB1.out, ← HGE.out b2 HB2.out]
          simp [HVW.out], bOn6 HB7.out hb8⟩
        clear hb8 HQ HNE HGE
        go_wp2_with fail
        go_ret
        exact HP.out
end
end Go.Proofs.YtleheaffipokfaaDoor
