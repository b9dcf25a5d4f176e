/-
  The program's walks: looking for the least rows of arcs, the least first.
-/
import Derived.Test.YtgihaakgadmidaaGreatK3
namespace Go.Proofs.YtgihaakgadmidaaGreat
open HP Go.RowKit

theorem numC_rep (n : Nat) (x : Int) : numC (List.replicate n x) = (List.replicate n (Value.int .i64 x)).toArray := by simp [numC]
/-- What grow answers: the costs, and the arcs ahead. -/
def GrowPost (w : World) (N : Nat) (Q : List Int → List Int → Prop) (e : Ending) (w' : World) : Prop :=
  ∃ cb bb C B, e = .returned (.agg #[.slice (some ⟨cb, 0, none⟩) N N, .slice (some ⟨bb, 0, none⟩) N N]) ∧ Blk w' cb (numC C) 2 ∧ Blk w' bb (numC B) 3 ∧ w.heap.size ≤ cb ∧ w.heap.size ≤ bb ∧ C.length = N ∧ B.length = N ∧ Q C B ∧ Below w.heap.size w w'
/-- The outer loop's head: what was taken out last is in the slots. -/
def GrowRel (w : World) (N : Nat) (L : Nat → List It) (s tb cb bb hb : Nat) (v10 v11 v12 : Value) (wr : World) : Prop :=
  ∃ D C B m x, Dj L N s D (Eall L D) C B m ∧ popV N m = x ∧ v10 = .int .i64 x.1 ∧ v11 = .int .i64 x.2.1 ∧ v12 = .bool x.2.2 ∧ Gs w wr N w.heap.size tb cb bb hb [] C B (popM N m)
/-- The inner loop's head: the first k steps of a have been looked at. -/
def InRel (w : World) (N : Nat) (L : Nat → List It) (s : Nat) (D : List Nat) (a rb tb cb bb hb : Nat) (u : Value) (C : List Int) (v : Value) (wr : World) : Prop :=
  ∃ k : Nat, k ≤ (L a).length ∧ v = .int .i64 k ∧ ∃ B m, Dj L N s (a :: D) (Ek L D a k) C B m ∧ Gs w wr N rb tb cb bb hb u.ownBlock.toList C B m ∧ StepsO wr w.heap.size u (L a)

set_option maxHeartbeats 8000000 in
set_option maxRecDepth 100000 in
theorem grow_onward {P : Nat → Prop} {w : World} {p : Nat} {n : NetD} {va vt : Value} (h : GraphAt P w p n va vt) (hn : GrN n) {L : Nat → List It} {N : Nat} (hN : n.a.length = N) (hL : StepsOK L N)
    (hst : ∀ (w1 : World) (a : Nat), a < N → Below w.heap.size w w1 → Calls Tryz.prog 31 #[gp p, .int .i64 a] w1 (StepsPost w1 (L a)))
    (s : Nat) (hs : s < N) : Calls Tryz.prog 39 #[gp p, .int .i64 s, .func (.func 31) #[] #[]] w (GrowPost w N (DjOut L N s)) := by
  have hsh : N ≤ 16384 := by have := hn.few.a; omega
  have HG := Lib.hid h
  have HN := Lib.hid hN
  have HL := Lib.hid hL
  have HST := Lib.hid hst
  clear h hn hN hL hst
  go_enter Tryz.func39, Tryz.ntmps39
  go_wp2_with fail
  obtain ⟨W0, hW0⟩ := named (w.alloc (.cells #[.slice none 0 0, .slice none 0 0] 73))
  rw [← hW0]
  have hb0 : Below w.heap.size w W0 := by rw [hW0]; exact below_alloc1 _
  have K0 : Hid (Blk W0 w.heap.size #[.slice none 0 0, .slice none 0 0] 73) := by rw [hW0]; exact Lib.hid (Blk.new _ _ _ _ rfl)
  have HB0 := Lib.hid hb0
  clear hW0 hb0
  refine (vArcs (HG.out.old HB0.out)).mono ?_
  rw [HN.out]
  rintro e w1 ⟨rfl, hb1⟩
  have HB1 := Lib.hid (bOn6 HB0.out hb1)
  have K1 := Lib.hid (K0.out.keep hb1)
  clear hb1 HB0 K0
  go_wp2_with fail
  obtain ⟨W2, hW2⟩ := named (w1.alloc (.cells #[.int .i64 1152921504606846976] 2))
  rw [← hW2]
  have hb2 : Below w1.heap.size w1 W2 := by rw [hW2]; exact below_alloc1 _
  have k2 : Blk W2 w1.heap.size #[.int .i64 1152921504606846976] 2 := by rw [hW2]; exact Blk.new _ _ _ _ rfl
  have HB2 := Lib.hid (bOn6 HB1.out hb2)
  have K2 := Lib.hid (K1.out.keep hb2)
  have HK2 := Lib.hid k2
  clear hW2 hb2 k2 HB1 K1
  refine (HP.R64.hrepeat N hsh _ _ HK2.out).mono ?_
  rintro e w3 ⟨rfl, hk3, hb3⟩
  have HB3 := Lib.hid (bOn6 HB2.out hb3)
  have K3 := Lib.hid (K2.out.keep hb3)
  have HC3 := Lib.hid hk3
  obtain ⟨cb, hcb⟩ : ∃ cb, W2.heap.size = cb := ⟨_, rfl⟩
  rw [hcb] at HC3
  rw [hcb]
  have HCB : Hid (w.heap.size ≤ cb) := Lib.hid (by rw [← hcb]; exact HB2.out.size)
  clear hb3 hk3 hcb HB2 K2 HK2
  go_wp2_with fail
  obtain ⟨W4, hW4⟩ := named (w3.alloc (.cells #[.int .i64 (-1)] 3))
  rw [← hW4]
  have hb4 : Below w3.heap.size w3 W4 := by rw [hW4]; exact below_alloc1 _
  have k4 : Blk W4 w3.heap.size #[.int .i64 (-1)] 3 := by rw [hW4]; exact Blk.new _ _ _ _ rfl
  have HB4 := Lib.hid (bOn6 HB3.out hb4)
  have K4 := Lib.hid (K3.out.keep hb4)
  have HC4 := Lib.hid (HC3.out.keep hb4)
  have HK4 := Lib.hid k4
  clear hW4 hb4 k4 HB3 K3 HC3
  refine (HP.hrepeat N hsh _ _ HK4.out).mono ?_
  rintro e w5 ⟨rfl, hk5, hb5⟩
  have HB5 := Lib.hid (bOn6 HB4.out hb5)
  have K5 := Lib.hid (K4.out.keep hb5)
  have HC5 := Lib.hid (HC4.out.keep hb5)
  have HP5 := Lib.hid hk5
  obtain ⟨bb, hbb⟩ : ∃ bb, W4.heap.size = bb := ⟨_, rfl⟩
  rw [hbb] at HP5
  rw [hbb]
  have HBB : Hid (w.heap.size ≤ bb) := Lib.hid (by rw [← hbb]; exact HB4.out.size)
  clear hb5 hk5 hbb HB4 K4 HC4 HK4
  go_wp2_with fail
  obtain ⟨W6, hW6⟩ := named (w5.alloc (.cells #[.slice (some ⟨cb, 0, none⟩) N N, .slice (some ⟨bb, 0, none⟩) N N] 73))
  rw [← hW6]
  have hb6 : Below w5.heap.size w5 W6 := by rw [hW6]; exact below_alloc1 _
  have k6 : Blk W6 w5.heap.size #[.slice (some ⟨cb, 0, none⟩) N N, .slice (some ⟨bb, 0, none⟩) N N] 73 := by rw [hW6]; exact Blk.new _ _ _ _ rfl
  have HT6 : Hid (TreeAt W6 N w5.heap.size cb bb (List.replicate N 1152921504606846976) (List.replicate N (-1))) := Lib.hid ⟨k6, by rw [numC_rep]; exact HC5.out.keep hb6, by rw [numC_rep]; exact HP5.out.keep hb6, by simp, by simp⟩
  have HB6 := Lib.hid (bOn6 HB5.out hb6)
  have K6 := Lib.hid (K5.out.keep hb6)
  obtain ⟨tb, htb⟩ : ∃ tb, w5.heap.size = tb := ⟨_, rfl⟩
  have hlt : w.heap.size < tb := by rw [← htb]; exact K5.out.lt
  rw [htb] at HT6
  rw [htb]
  have HTB := Lib.hid hlt
  clear hb6 k6 htb hlt HB5 K5 HC5 HP5 hW6
  refine (Hk.new w W6 HB6.out.size (bs := [w.heap.size, tb, cb, bb]) (fun b hb => by
    simp at hb
    rcases hb with rfl | rfl | rfl | rfl
    · exact K6.out.lt
    · exact HT6.out.t.lt
    · exact HT6.out.c.lt
    · exact HT6.out.b.lt) hsh).mono ?_
  rintro e w7 ⟨hb, rfl, hh, hb7⟩
  have HG7 : Hid (Gs w w7 N w.heap.size tb cb bb hb [] (List.replicate N 1152921504606846976) (List.replicate N (-1)) (fun _ => none)) := Lib.hid ⟨HT6.out.old hb7, K6.out.keep hb7, hh, bOn6 HB6.out hb7, fun q hq => (by cases hq), HCB.out, HBB.out, HTB.out⟩
  clear hh hb7 HB6 K6 HT6
  go_wp2_with fail
  have HPB : Hid (putB N (fun _ => none) s 0 = true) := Lib.hid (putB_none hs rfl)
  have HPM : Hid (putM N (fun _ => none) s 0 = upd (fun _ => none) s (some 0)) := Lib.hid (by rw [putM_true HPB.out]; rfl)
  refine (HG7.out.put s 0 (by omega) (by omega) (by omega) (by omega) HPB.out HPM.out).mono ?_
  rintro e w8 ⟨rfl, g8, -⟩
  have HG8 := Lib.hid g8
  clear g8 HPB HPM HG7
  go_wp2_with fail
  obtain ⟨X0, hX0⟩ : ∃ X, popV N (upd (fun _ => none) s (some 0)) = X := ⟨_, rfl⟩
  have HX0 := Lib.hid hX0
  clear hX0
  refine (HG8.out.pop HX0.out rfl).mono ?_
  obtain ⟨xa, xc, xo⟩ := X0
  rintro e w9 ⟨rfl, g9⟩
  have HG9 := Lib.hid g9
  unfold popT
  clear g9 HG8
  go_wp2_with fail
  go_loopw [10, 11, 12, 14, 15] (fun v10 v11 v12 _ _ wr => GrowRel w N L s tb cb bb hb v10 v11 v12 wr) (fun _ _ _ _ _ wr => potW wr cb N)
  case atStart => exact ⟨[], _, _, _, _, (Dj.begin hs).congrE (fun a y h => by cases h.1), HX0.out, rfl, rfl, rfl, HG9.out⟩
  case round =>
    obtain ⟨D, C, B, m, ⟨ya, yc, yo⟩, hdj, hpv, rfl, rfl, rfl, hg⟩ := hrel
    have HDJ := Lib.hid hdj
    have HPV := Lib.hid hpv
    have HGS := Lib.hid hg
    clear hdj hpv hg HG9 HX0
    obtain ⟨wo, rfl⟩ : ∃ wo : World, wo = wr := ⟨_, rfl⟩
    rcases lst_spec m N with ⟨hl, hnone⟩ | ⟨⟨a, c⟩, hl, hlst⟩
    · have hpv := HPV.out
      unfold popV at hpv
      rw [hl] at hpv
      simp only [Prod.mk.injEq] at hpv
      obtain ⟨rfl, rfl, rfl⟩ := hpv
      have hpm : popM N m = m := by unfold popM; rw [hl]
      have HOUT := Lib.hid (Dj.done HDJ.out hnone hs)
      have HGS2 := HGS
      rw [hpm] at HGS2
      obtain ⟨x0, x1, f0, f1⟩ := HGS.out.t.t.o2
      obtain ⟨y0, y1, g0, g1⟩ := HGS.out.r.o2
      have hlt0 := HGS.out.r.lt
      have hlt1 := HGS.out.t.t.lt
      have hne : w.heap.size ≠ tb := by have := HGS.out.ord; omega
      clear hl hnone hpm
      go_wp2_with fail
      obtain ⟨we, hwe⟩ := named ((wo.setCell ⟨w.heap.size, 0, none⟩ (.slice (some ⟨cb, 0, none⟩) N N)).setCell ⟨w.heap.size, 1, none⟩ (.slice (some ⟨bb, 0, none⟩) N N))
      rw [← hwe]
      have kr : Blk we w.heap.size #[.slice (some ⟨cb, 0, none⟩) N N, .slice (some ⟨bb, 0, none⟩) N N] 73 := by
        rw [hwe]
        have := (HGS.out.r.set 0 (.slice (some ⟨cb, 0, none⟩) N N)).set 1 (.slice (some ⟨bb, 0, none⟩) N N)
        simpa using this
      have hkp : Keep (fun b => b ≠ w.heap.size) wo we := by rw [hwe]; exact ((Keep.refl _ _).setCell (fun h => h rfl) _ _).setCell (fun h => h rfl) _ _
      have hP : GrowPost w N (DjOut L N s) (.returned (.agg #[.slice (some ⟨cb, 0, none⟩) N N, .slice (some ⟨bb, 0, none⟩) N N])) we :=
        ⟨cb, bb, C, B, rfl, hkp.blk HGS.out.t.c (blk_apart HGS.out.t.c HGS.out.r (by decide)), hkp.blk HGS.out.t.b (blk_apart HGS.out.t.b HGS.out.r (by decide)), HGS.out.c0, HGS.out.b0, HGS.out.t.cl, HGS.out.t.bl, HOUT.out, HGS.out.b.trans (hkp.below (fun b hb e => by omega) HGS.out.b.size)⟩
      obtain ⟨r0, r1, -, -⟩ := kr.o2
      exact bodyPost_ret (v := .agg #[.slice (some ⟨cb, 0, none⟩) N N, .slice (some ⟨bb, 0, none⟩) N N]) (by simp [results, Tryz.results39, go_sem, r0, r1]) rfl hP
    · have hpv := HPV.out
      unfold popV at hpv
      rw [hl] at hpv
      simp only [Prod.mk.injEq] at hpv
      obtain ⟨rfl, rfl, rfl⟩ := hpv
      have hpm : popM N m = upd m a none := by unfold popM; rw [hl]
      rw [hpm] at HGS
      obtain ⟨haN, hma, -⟩ := hlst
      simp only [] at haN hma
      obtain ⟨-, haD, c0, c1, -⟩ := HDJ.out.hp a c hma
      obtain ⟨hdj2, hcur⟩ := HDJ.out.pop (lst_of hl)
      have HD2 := Lib.hid hdj2
      have HCUR := Lib.hid hcur
      have hca : ctL (C.set a c) a = c := by rw [ctL_set C a (by rw [HDJ.out.cl]; exact haN), if_pos rfl]
      have HCA := Lib.hid hca
      have HPOT : Hid (potL (C.set a c) < potL C) := Lib.hid (by
        have h1 := HDJ.out.dout a haN haD
        have h2 : a < C.length := by rw [HDJ.out.cl]; exact haN
        rw [ctL_at h2] at h1
        exact potL_set C a h2 c c0 (by omega))
      have HPW : Hid (potW wo cb N = potL C) := Lib.hid HGS.out.t.pot
      obtain ⟨x0, x1, f0, f1⟩ := HGS.out.t.t.o2
      have hcl : a < C.length := by rw [HDJ.out.cl]; exact haN
      obtain ⟨cv, hcell⟩ : ∃ v, wo.cell? ⟨cb, a, none⟩ = some v := ⟨_, HGS.out.t.c.cell a (numC_at hcl)⟩
      have hcfr := HGS.out.t.c.free a
      have hclt := HGS.out.t.c.lt
      have hni : (a : Int) < (N : Int) := by omega
      clear hl hpm hma hdj2 hcur hca hcl HDJ
      go_wp2_with fail
      obtain ⟨wp, hwp⟩ := named (wo.setCell ⟨cb, a, none⟩ (.int .i64 c))
      rw [← hwp]
      have hg2 := HGS.out.setC a c
      rw [← hwp] at hg2
      have HG2 := Lib.hid hg2
      clear hg2 hwp x0 x1 f0 f1 hcell hcfr hclt HGS
      refine (HST.out wp a haN HG2.out.b).mono ?_
      rintro e w11 ⟨rv, rfl, hrow, hb11⟩
      obtain ⟨rq, rcap, rfl⟩ := hrow.shape
      have hg3 := HG2.out.add (ys := (Value.slice rq (L a).length rcap).ownBlock.toList) hb11 (fun q hq => by
        simp only [Option.mem_toList] at hq
        obtain ⟨h1, h2⟩ := World.ownsRow.lt hrow q hq
        exact ⟨h1, h2⟩)
      rw [List.append_nil] at hg3
      have HG3 := Lib.hid hg3
      have HROW := Lib.hid (hrow.base HG2.out.b.size)
      clear hrow hg3 hb11 HG2
      go_wp2_with fail
      go_loopw [14, 15, 53] (fun _ _ v wr => InRel w N L s D a w.heap.size tb cb bb hb (.slice rq (L a).length rcap) (C.set a c) v wr) (fun _ _ v _ => (L a).length - (intOf v).toNat)
      case atStart => exact ⟨0, Nat.zero_le _, rfl, B, _, HD2.out.congrE (fun a' y h => Ek_zero a' y h), HG3.out, HROW.out⟩
      case round =>
        obtain ⟨k, hk, rfl, B2, m2, hdj, hg, hrow⟩ := hrel
        obtain ⟨wi, rfl⟩ : ∃ wi : World, wi = wr := ⟨_, rfl⟩
        have HDK := Lib.hid hdj
        have HGK := Lib.hid hg
        have HRK := Lib.hid hrow
        clear hdj hg hrow HG3 HROW HD2
        by_cases hlt : k < (L a).length
        · obtain ⟨⟨b, d⟩, hy⟩ : ∃ y, (L a)[k] = y := ⟨_, rfl⟩
          have hyL : (b, d) ∈ L a := by rw [← hy]; exact List.getElem_mem hlt
          have HYL := Lib.hid hyL
          obtain ⟨hbN, d0, d1⟩ := HL.out a haN _ hyL
          simp only [] at hbN d0 d1
          have HEK : Hid (∀ a' y, Ek L D a (k + 1) a' y → Eadd (Ek L D a k) a (b, d) a' y) := Lib.hid (fun a' y h => by rw [← hy]; exact Ek_succ hlt a' y h)
          obtain ⟨rg, rfl, -, hrlt, z0, z1⟩ := HRK.out.at hlt
          rw [hy] at z0 z1
          simp only [] at z0 z1
          have hli : (k : Int) < ((L a).length : Int) := by omega
          have hbi : (b : Int) < (N : Int) := by omega
          have hlen : (L a).length ≤ 9223372036854775807 := by
            rcases HRK.out.2 with ⟨e, e0⟩ | ⟨g9, cap9, cur9, e, _, _, h9, h8, _⟩
            · omega
            · unfold maxLen at h8; omega
          clear hy hyL
          go_wp2_with fail
          obtain ⟨xb, hxb⟩ : ∃ xb, wi.heap.size = xb := ⟨_, rfl⟩
          obtain ⟨wj, hwj⟩ := named (wi.alloc (.cells #[.int .i64 b, .int .i64 d] 84))
          rw [← hwj]
          have hbj : Below wi.heap.size wi wj := by rw [hwj]; exact below_alloc1 _
          have kb : Blk wj xb #[.int .i64 b, .int .i64 d] 84 := by rw [hwj]; exact Blk.new _ _ _ _ hxb
          rw [hxb]
          have hgj := HGK.out.add (ys := [xb]) hbj (fun q hq => by
            simp at hq
            subst hq
            exact ⟨by omega, kb.lt⟩)
          have HGJ := Lib.hid hgj
          have HRJ := Lib.hid (HRK.out.below hbj)
          have HKB := Lib.hid kb
          obtain ⟨b0, b1, -, -⟩ := kb.o2
          have hxlt := kb.lt
          clear hbj kb hgj hwj hxb z0 z1 HGK HRK
          go_wp2_with fail
          refine (add_any c d _ (by omega) (by omega) (by omega) (by omega)).mono ?_
          rintro e w13 ⟨rfl, rfl⟩
          obtain ⟨dd, hdd⟩ : ∃ dd, addC c d = dd := ⟨_, rfl⟩
          have hdb := addC_held c d
          rw [hdd] at hdb
          rw [hdd]
          have HDD := Lib.hid hdd
          have hCb : b < (C.set a c).length := by rw [HGJ.out.t.cl]; exact hbN
          obtain ⟨cv, hcv⟩ : ∃ cv, ctL (C.set a c) b = cv := ⟨_, rfl⟩
          have HCV := Lib.hid hcv
          have hcc : wj.cell? ⟨cb, b, none⟩ = some (.int .i64 cv) := by rw [← hcv, ctL_at hCb]; exact HGJ.out.t.c.cell b (numC_at hCb)
          have hclt := HGJ.out.t.c.lt
          obtain ⟨x0, x1, -, -⟩ := HGJ.out.t.t.o2
          have htlt := HGJ.out.t.t.lt
          clear hdd hcv hCb
          by_cases hi : dd = 1152921504606846976
          · have HR : Hid (InRel w N L s D a w.heap.size tb cb bb hb (.slice (some ⟨rg, 0, none⟩) (L a).length rcap) (C.set a c) (.int .i64 ((k + 1 : Nat) : Int)) wj) :=
              Lib.hid ⟨k + 1, hlt, rfl, B2, m2, (HDK.out.inf (by simp) HYL.out (by rw [HCA.out, HDD.out]; exact hi)).congrE HEK.out, HGJ.out.drop, HRJ.out⟩
            have hi1 : (dd != 1152921504606846976) = false := by simpa using hi
            clear hi
            go_wp2_with fail
            go_roundw
            case rel => exact HR.out
            case measure => simp [intOf]; omega
          · have hi1 : (dd != 1152921504606846976) = true := by simpa using hi
            by_cases hcI : cv = 1152921504606846976
            · have hc1 : (cv == 1152921504606846976) = true := by simpa using hcI
              have hnD : b ∉ a :: D := fun hm => by
                have := (HDK.out.din b hm).2
                rw [HCV.out] at this
                omega
              have HND := Lib.hid hnD
              have hin : hld dd = dd := hld_in _ hdb.1 hdb.2
              cases hB : putB N m2 (b : Int) dd with
              | false =>
                have hm0 : ∃ x, m2 b = some x ∧ x ≤ dd := by
                  cases hm : m2 b with
                  | none => rw [putB_none hbN hm] at hB; cases hB
                  | some x =>
                    rw [putB_some hbN hm, hin] at hB
                    exact ⟨x, rfl, by simpa using hB⟩
                obtain ⟨x, hmx, hle⟩ := hm0
                have hnew := (HDK.out.high (by simp) HYL.out HCUR.out d0 hnD hmx (by rw [HCA.out, HDD.out]; exact hle)).congrE HEK.out
                have HNEW := Lib.hid hnew
                have HPM : Hid (putM N m2 (b : Int) dd = m2) := Lib.hid (putM_false hB)
                have HPB := Lib.hid hB
                clear hnew hB hmx hle hnD hin hi hcI
                go_wp2_with fail
                refine (HGJ.out.put b dd (by omega) (by omega) (by omega) (by omega) HPB.out HPM.out).mono ?_
                rintro e w14 ⟨rfl, hg14, hk14⟩
                have HR : Hid (InRel w N L s D a w.heap.size tb cb bb hb (.slice (some ⟨rg, 0, none⟩) (L a).length rcap) (C.set a c) (.int .i64 ((k + 1 : Nat) : Int)) w14) :=
                  Lib.hid ⟨k + 1, hlt, rfl, B2, m2, HNEW.out, hg14.drop, owns_keep HRJ.out hk14 (fun q hq => Or.inr (by rw [hq]; simp))⟩
                clear hg14 hk14
                go_wp2_with fail
                go_roundw
                case rel => exact HR.out
                case measure => simp [intOf]; omega
              | true =>
                have hmx : ∀ x, m2 b = some x → addC (ctL (C.set a c) a) d ≤ x := fun x hm => by
                  rw [putB_some hbN hm, hin] at hB
                  rw [HCA.out, HDD.out]
                  have : dd < x := by simpa using hB
                  omega
                have hnew := (HDK.out.put (by simp) HYL.out hbN HCUR.out d0 (by rw [HCA.out, HDD.out]; omega) hnD hmx).congrE HEK.out
                rw [HCA.out, HDD.out] at hnew
                have HNEW := Lib.hid hnew
                have HPM : Hid (putM N m2 (b : Int) dd = upd m2 b (some dd)) := Lib.hid (by rw [putM_true hB, hin])
                have HPB := Lib.hid hB
                clear hnew hB hmx hnD hin hi hcI
                go_wp2_with fail
                refine (HGJ.out.put b dd (by omega) (by omega) (by omega) (by omega) HPB.out HPM.out).mono ?_
                rintro e w14 ⟨rfl, hg14, hk14⟩
                have hrow14 : StepsO w14 w.heap.size (.slice (some ⟨rg, 0, none⟩) (L a).length rcap) (L a) := owns_keep HRJ.out hk14 (fun q hq => Or.inr (by rw [hq]; simp))
                have kb14 := hk14.blk HKB.out (Or.inr (by simp))
                have hset := hg14.setB b (a : Int)
                have hrow15 : StepsO (w14.setCell ⟨bb, b, none⟩ (.int .i64 (a : Int))) w.heap.size (.slice (some ⟨rg, 0, none⟩) (L a).length rcap) (L a) := owns_set hrow14 hg14.t.b (by decide) _ _
                have HR : Hid (InRel w N L s D a w.heap.size tb cb bb hb (.slice (some ⟨rg, 0, none⟩) (L a).length rcap) (C.set a c) (.int .i64 ((k + 1 : Nat) : Int)) (w14.setCell ⟨bb, b, none⟩ (.int .i64 (a : Int)))) :=
                  Lib.hid ⟨k + 1, hlt, rfl, _, _, HNEW.out, hset.drop, hrow15⟩
                obtain ⟨y0, y1, -, -⟩ := hg14.t.t.o2
                obtain ⟨v0, v1, -, -⟩ := kb14.o2
                have hbl : b < B2.length := by rw [hg14.t.bl]; exact hbN
                obtain ⟨ov, hov⟩ : ∃ v, w14.cell? ⟨bb, b, none⟩ = some v := ⟨_, hg14.t.b.cell b (numC_at hbl)⟩
                have hof := hg14.t.b.free b
                have hbl2 := hg14.t.b.lt
                have htl2 := hg14.t.t.lt
                have hxl2 := kb14.lt
                clear hg14 hk14 hrow14 kb14 hset hrow15 hbl b0 b1 hcc x0 x1
                go_wp2_with fail
                go_roundw
                case rel => exact HR.out
                case measure => simp [intOf]; omega
            · have hc1 : (cv == 1152921504606846976) = false := by simpa using hcI
              have hmD : b ∈ a :: D := Classical.byContradiction fun hn => by
                have := HDK.out.dout b hbN hn
                rw [HCV.out] at this
                exact hcI this
              have HR : Hid (InRel w N L s D a w.heap.size tb cb bb hb (.slice (some ⟨rg, 0, none⟩) (L a).length rcap) (C.set a c) (.int .i64 ((k + 1 : Nat) : Int)) wj) :=
                Lib.hid ⟨k + 1, hlt, rfl, B2, m2, (HDK.out.out (by simp) HYL.out HCUR.out d0 hmD).congrE HEK.out, HGJ.out.drop, HRJ.out⟩
              clear hi hcI hmD
              go_wp2_with fail
              go_roundw
              case rel => exact HR.out
              case measure => simp [intOf]; omega
        · have hle : (L a).length ≤ k := by omega
          have HD5 := Lib.hid (HDK.out.congrE (fun a' y h => Ek_all hle a' y h))
          have hnl : decide (k < (L a).length) = false := by simpa using hlt
          clear hle hlt HDK
          have HG5 : Hid (Gs w wi N w.heap.size tb cb bb hb [] (C.set a c) B2 m2) := Lib.hid (Gs.drop (ys := _) (xs := []) (by rw [List.append_nil]; exact HGK.out))
          clear HGK HRK
          go_wp2_with fail
          obtain ⟨X1, hX1⟩ : ∃ X, popV N m2 = X := ⟨_, rfl⟩
          have HX1 := Lib.hid hX1
          clear hX1
          refine (HG5.out.pop HX1.out rfl).mono ?_
          obtain ⟨za, zc, zo⟩ := X1
          rintro e w15 ⟨rfl, hg15⟩
          have HPW2 : Hid (potW w15 cb N = potL (C.set a c)) := Lib.hid hg15.t.pot
          have HR : Hid (GrowRel w N L s tb cb bb hb (.int .i64 za) (.int .i64 zc) (.bool zo) w15) := Lib.hid ⟨a :: D, _, _, _, _, HD5.out, HX1.out, rfl, rfl, rfl, hg15⟩
          unfold popT
          clear hg15 HG5
          go_wp2_with fail
          go_roundw
          case rel => exact HR.out
          case measure => rw [HPW2.out, HPW.out]; exact HPOT.out

set_option maxHeartbeats 8000000 in
set_option maxRecDepth 100000 in
theorem grow_backward {P : Nat → Prop} {w : World} {p : Nat} {n : NetD} {va vt : Value} (h : GraphAt P w p n va vt) (hn : GrN n) {L : Nat → List It} {N : Nat} (hN : n.a.length = N) (hL : StepsOK L N)
    (hst : ∀ (w1 : World) (a : Nat), a < N → Below w.heap.size w w1 → Calls Tryz.prog 32 #[gp p, .int .i64 a] w1 (StepsPost w1 (L a)))
    (s : Nat) (hs : s < N) : Calls Tryz.prog 39 #[gp p, .int .i64 s, .func (.func 32) #[] #[]] w (GrowPost w N (DjOut L N s)) := by
  have hsh : N ≤ 16384 := by have := hn.few.a; omega
  have HG := Lib.hid h
  have HN := Lib.hid hN
  have HL := Lib.hid hL
  have HST := Lib.hid hst
  clear h hn hN hL hst
  go_enter Tryz.func39, Tryz.ntmps39
  go_wp2_with fail
  obtain ⟨W0, hW0⟩ := named (w.alloc (.cells #[.slice none 0 0, .slice none 0 0] 73))
  rw [← hW0]
  have hb0 : Below w.heap.size w W0 := by rw [hW0]; exact below_alloc1 _
  have K0 : Hid (Blk W0 w.heap.size #[.slice none 0 0, .slice none 0 0] 73) := by rw [hW0]; exact Lib.hid (Blk.new _ _ _ _ rfl)
  have HB0 := Lib.hid hb0
  clear hW0 hb0
  refine (vArcs (HG.out.old HB0.out)).mono ?_
  rw [HN.out]
  rintro e w1 ⟨rfl, hb1⟩
  have HB1 := Lib.hid (bOn6 HB0.out hb1)
  have K1 := Lib.hid (K0.out.keep hb1)
  clear hb1 HB0 K0
  go_wp2_with fail
  obtain ⟨W2, hW2⟩ := named (w1.alloc (.cells #[.int .i64 1152921504606846976] 2))
  rw [← hW2]
  have hb2 : Below w1.heap.size w1 W2 := by rw [hW2]; exact below_alloc1 _
  have k2 : Blk W2 w1.heap.size #[.int .i64 1152921504606846976] 2 := by rw [hW2]; exact Blk.new _ _ _ _ rfl
  have HB2 := Lib.hid (bOn6 HB1.out hb2)
  have K2 := Lib.hid (K1.out.keep hb2)
  have HK2 := Lib.hid k2
  clear hW2 hb2 k2 HB1 K1
  refine (HP.R64.hrepeat N hsh _ _ HK2.out).mono ?_
  rintro e w3 ⟨rfl, hk3, hb3⟩
  have HB3 := Lib.hid (bOn6 HB2.out hb3)
  have K3 := Lib.hid (K2.out.keep hb3)
  have HC3 := Lib.hid hk3
  obtain ⟨cb, hcb⟩ : ∃ cb, W2.heap.size = cb := ⟨_, rfl⟩
  rw [hcb] at HC3
  rw [hcb]
  have HCB : Hid (w.heap.size ≤ cb) := Lib.hid (by rw [← hcb]; exact HB2.out.size)
  clear hb3 hk3 hcb HB2 K2 HK2
  go_wp2_with fail
  obtain ⟨W4, hW4⟩ := named (w3.alloc (.cells #[.int .i64 (-1)] 3))
  rw [← hW4]
  have hb4 : Below w3.heap.size w3 W4 := by rw [hW4]; exact below_alloc1 _
  have k4 : Blk W4 w3.heap.size #[.int .i64 (-1)] 3 := by rw [hW4]; exact Blk.new _ _ _ _ rfl
  have HB4 := Lib.hid (bOn6 HB3.out hb4)
  have K4 := Lib.hid (K3.out.keep hb4)
  have HC4 := Lib.hid (HC3.out.keep hb4)
  have HK4 := Lib.hid k4
  clear hW4 hb4 k4 HB3 K3 HC3
  refine (HP.hrepeat N hsh _ _ HK4.out).mono ?_
  rintro e w5 ⟨rfl, hk5, hb5⟩
  have HB5 := Lib.hid (bOn6 HB4.out hb5)
  have K5 := Lib.hid (K4.out.keep hb5)
  have HC5 := Lib.hid (HC4.out.keep hb5)
  have HP5 := Lib.hid hk5
  obtain ⟨bb, hbb⟩ : ∃ bb, W4.heap.size = bb := ⟨_, rfl⟩
  rw [hbb] at HP5
  rw [hbb]
  have HBB : Hid (w.heap.size ≤ bb) := Lib.hid (by rw [← hbb]; exact HB4.out.size)
  clear hb5 hk5 hbb HB4 K4 HC4 HK4
  go_wp2_with fail
  obtain ⟨W6, hW6⟩ := named (w5.alloc (.cells #[.slice (some ⟨cb, 0, none⟩) N N, .slice (some ⟨bb, 0, none⟩) N N] 73))
  rw [← hW6]
  have hb6 : Below w5.heap.size w5 W6 := by rw [hW6]; exact below_alloc1 _
  have k6 : Blk W6 w5.heap.size #[.slice (some ⟨cb, 0, none⟩) N N, .slice (some ⟨bb, 0, none⟩) N N] 73 := by rw [hW6]; exact Blk.new _ _ _ _ rfl
  have HT6 : Hid (TreeAt W6 N w5.heap.size cb bb (List.replicate N 1152921504606846976) (List.replicate N (-1))) := Lib.hid ⟨k6, by rw [numC_rep]; exact HC5.out.keep hb6, by rw [numC_rep]; exact HP5.out.keep hb6, by simp, by simp⟩
  have HB6 := Lib.hid (bOn6 HB5.out hb6)
  have K6 := Lib.hid (K5.out.keep hb6)
  obtain ⟨tb, htb⟩ : ∃ tb, w5.heap.size = tb := ⟨_, rfl⟩
  have hlt : w.heap.size < tb := by rw [← htb]; exact K5.out.lt
  rw [htb] at HT6
  rw [htb]
  have HTB := Lib.hid hlt
  clear hb6 k6 htb hlt HB5 K5 HC5 HP5 hW6
  refine (Hk.new w W6 HB6.out.size (bs := [w.heap.size, tb, cb, bb]) (fun b hb => by
    simp at hb
    rcases hb with rfl | rfl | rfl | rfl
    · exact K6.out.lt
    · exact HT6.out.t.lt
    · exact HT6.out.c.lt
    · exact HT6.out.b.lt) hsh).mono ?_
  rintro e w7 ⟨hb, rfl, hh, hb7⟩
  have HG7 : Hid (Gs w w7 N w.heap.size tb cb bb hb [] (List.replicate N 1152921504606846976) (List.replicate N (-1)) (fun _ => none)) := Lib.hid ⟨HT6.out.old hb7, K6.out.keep hb7, hh, bOn6 HB6.out hb7, fun q hq => (by cases hq), HCB.out, HBB.out, HTB.out⟩
  clear hh hb7 HB6 K6 HT6
  go_wp2_with fail
  have HPB : Hid (putB N (fun _ => none) s 0 = true) := Lib.hid (putB_none hs rfl)
  have HPM : Hid (putM N (fun _ => none) s 0 = upd (fun _ => none) s (some 0)) := Lib.hid (by rw [putM_true HPB.out]; rfl)
  refine (HG7.out.put s 0 (by omega) (by omega) (by omega) (by omega) HPB.out HPM.out).mono ?_
  rintro e w8 ⟨rfl, g8, -⟩
  have HG8 := Lib.hid g8
  clear g8 HPB HPM HG7
  go_wp2_with fail
  obtain ⟨X0, hX0⟩ : ∃ X, popV N (upd (fun _ => none) s (some 0)) = X := ⟨_, rfl⟩
  have HX0 := Lib.hid hX0
  clear hX0
  refine (HG8.out.pop HX0.out rfl).mono ?_
  obtain ⟨xa, xc, xo⟩ := X0
  rintro e w9 ⟨rfl, g9⟩
  have HG9 := Lib.hid g9
  unfold popT
  clear g9 HG8
  go_wp2_with fail
  go_loopw [10, 11, 12, 14, 15] (fun v10 v11 v12 _ _ wr => GrowRel w N L s tb cb bb hb v10 v11 v12 wr) (fun _ _ _ _ _ wr => potW wr cb N)
  case atStart => exact ⟨[], _, _, _, _, (Dj.begin hs).congrE (fun a y h => by cases h.1), HX0.out, rfl, rfl, rfl, HG9.out⟩
  case round =>
    obtain ⟨D, C, B, m, ⟨ya, yc, yo⟩, hdj, hpv, rfl, rfl, rfl, hg⟩ := hrel
    have HDJ := Lib.hid hdj
    have HPV := Lib.hid hpv
    have HGS := Lib.hid hg
    clear hdj hpv hg HG9 HX0
    obtain ⟨wo, rfl⟩ : ∃ wo : World, wo = wr := ⟨_, rfl⟩
    rcases lst_spec m N with ⟨hl, hnone⟩ | ⟨⟨a, c⟩, hl, hlst⟩
    · have hpv := HPV.out
      unfold popV at hpv
      rw [hl] at hpv
      simp only [Prod.mk.injEq] at hpv
      obtain ⟨rfl, rfl, rfl⟩ := hpv
      have hpm : popM N m = m := by unfold popM; rw [hl]
      have HOUT := Lib.hid (Dj.done HDJ.out hnone hs)
      have HGS2 := HGS
      rw [hpm] at HGS2
      obtain ⟨x0, x1, f0, f1⟩ := HGS.out.t.t.o2
      obtain ⟨y0, y1, g0, g1⟩ := HGS.out.r.o2
      have hlt0 := HGS.out.r.lt
      have hlt1 := HGS.out.t.t.lt
      have hne : w.heap.size ≠ tb := by have := HGS.out.ord; omega
      clear hl hnone hpm
      go_wp2_with fail
      obtain ⟨we, hwe⟩ := named ((wo.setCell ⟨w.heap.size, 0, none⟩ (.slice (some ⟨cb, 0, none⟩) N N)).setCell ⟨w.heap.size, 1, none⟩ (.slice (some ⟨bb, 0, none⟩) N N))
      rw [← hwe]
      have kr : Blk we w.heap.size #[.slice (some ⟨cb, 0, none⟩) N N, .slice (some ⟨bb, 0, none⟩) N N] 73 := by
        rw [hwe]
        have := (HGS.out.r.set 0 (.slice (some ⟨cb, 0, none⟩) N N)).set 1 (.slice (some ⟨bb, 0, none⟩) N N)
        simpa using this
      have hkp : Keep (fun b => b ≠ w.heap.size) wo we := by rw [hwe]; exact ((Keep.refl _ _).setCell (fun h => h rfl) _ _).setCell (fun h => h rfl) _ _
      have hP : GrowPost w N (DjOut L N s) (.returned (.agg #[.slice (some ⟨cb, 0, none⟩) N N, .slice (some ⟨bb, 0, none⟩) N N])) we :=
        ⟨cb, bb, C, B, rfl, hkp.blk HGS.out.t.c (blk_apart HGS.out.t.c HGS.out.r (by decide)), hkp.blk HGS.out.t.b (blk_apart HGS.out.t.b HGS.out.r (by decide)), HGS.out.c0, HGS.out.b0, HGS.out.t.cl, HGS.out.t.bl, HOUT.out, HGS.out.b.trans (hkp.below (fun b hb e => by omega) HGS.out.b.size)⟩
      obtain ⟨r0, r1, -, -⟩ := kr.o2
      exact bodyPost_ret (v := .agg #[.slice (some ⟨cb, 0, none⟩) N N, .slice (some ⟨bb, 0, none⟩) N N]) (by simp [results, Tryz.results39, go_sem, r0, r1]) rfl hP
    · have hpv := HPV.out
      unfold popV at hpv
      rw [hl] at hpv
      simp only [Prod.mk.injEq] at hpv
      obtain ⟨rfl, rfl, rfl⟩ := hpv
      have hpm : popM N m = upd m a none := by unfold popM; rw [hl]
      rw [hpm] at HGS
      obtain ⟨haN, hma, -⟩ := hlst
      simp only [] at haN hma
      obtain ⟨-, haD, c0, c1, -⟩ := HDJ.out.hp a c hma
      obtain ⟨hdj2, hcur⟩ := HDJ.out.pop (lst_of hl)
      have HD2 := Lib.hid hdj2
      have HCUR := Lib.hid hcur
      have hca : ctL (C.set a c) a = c := by rw [ctL_set C a (by rw [HDJ.out.cl]; exact haN), if_pos rfl]
      have HCA := Lib.hid hca
      have HPOT : Hid (potL (C.set a c) < potL C) := Lib.hid (by
        have h1 := HDJ.out.dout a haN haD
        have h2 : a < C.length := by rw [HDJ.out.cl]; exact haN
        rw [ctL_at h2] at h1
        exact potL_set C a h2 c c0 (by omega))
      have HPW : Hid (potW wo cb N = potL C) := Lib.hid HGS.out.t.pot
      obtain ⟨x0, x1, f0, f1⟩ := HGS.out.t.t.o2
      have hcl : a < C.length := by rw [HDJ.out.cl]; exact haN
      obtain ⟨cv, hcell⟩ : ∃ v, wo.cell? ⟨cb, a, none⟩ = some v := ⟨_, HGS.out.t.c.cell a (numC_at hcl)⟩
      have hcfr := HGS.out.t.c.free a
      have hclt := HGS.out.t.c.lt
      have hni : (a : Int) < (N : Int) := by omega
      clear hl hpm hma hdj2 hcur hca hcl HDJ
      go_wp2_with fail
      obtain ⟨wp, hwp⟩ := named (wo.setCell ⟨cb, a, none⟩ (.int .i64 c))
      rw [← hwp]
      have hg2 := HGS.out.setC a c
      rw [← hwp] at hg2
      have HG2 := Lib.hid hg2
      clear hg2 hwp x0 x1 f0 f1 hcell hcfr hclt HGS
      refine (HST.out wp a haN HG2.out.b).mono ?_
      rintro e w11 ⟨rv, rfl, hrow, hb11⟩
      obtain ⟨rq, rcap, rfl⟩ := hrow.shape
      have hg3 := HG2.out.add (ys := (Value.slice rq (L a).length rcap).ownBlock.toList) hb11 (fun q hq => by
        simp only [Option.mem_toList] at hq
        obtain ⟨h1, h2⟩ := World.ownsRow.lt hrow q hq
        exact ⟨h1, h2⟩)
      rw [List.append_nil] at hg3
      have HG3 := Lib.hid hg3
      have HROW := Lib.hid (hrow.base HG2.out.b.size)
      clear hrow hg3 hb11 HG2
      go_wp2_with fail
      go_loopw [14, 15, 53] (fun _ _ v wr => InRel w N L s D a w.heap.size tb cb bb hb (.slice rq (L a).length rcap) (C.set a c) v wr) (fun _ _ v _ => (L a).length - (intOf v).toNat)
      case atStart => exact ⟨0, Nat.zero_le _, rfl, B, _, HD2.out.congrE (fun a' y h => Ek_zero a' y h), HG3.out, HROW.out⟩
      case round =>
        obtain ⟨k, hk, rfl, B2, m2, hdj, hg, hrow⟩ := hrel
        obtain ⟨wi, rfl⟩ : ∃ wi : World, wi = wr := ⟨_, rfl⟩
        have HDK := Lib.hid hdj
        have HGK := Lib.hid hg
        have HRK := Lib.hid hrow
        clear hdj hg hrow HG3 HROW HD2
        by_cases hlt : k < (L a).length
        · obtain ⟨⟨b, d⟩, hy⟩ : ∃ y, (L a)[k] = y := ⟨_, rfl⟩
          have hyL : (b, d) ∈ L a := by rw [← hy]; exact List.getElem_mem hlt
          have HYL := Lib.hid hyL
          obtain ⟨hbN, d0, d1⟩ := HL.out a haN _ hyL
          simp only [] at hbN d0 d1
          have HEK : Hid (∀ a' y, Ek L D a (k + 1) a' y → Eadd (Ek L D a k) a (b, d) a' y) := Lib.hid (fun a' y h => by rw [← hy]; exact Ek_succ hlt a' y h)
          obtain ⟨rg, rfl, -, hrlt, z0, z1⟩ := HRK.out.at hlt
          rw [hy] at z0 z1
          simp only [] at z0 z1
          have hli : (k : Int) < ((L a).length : Int) := by omega
          have hbi : (b : Int) < (N : Int) := by omega
          have hlen : (L a).length ≤ 9223372036854775807 := by
            rcases HRK.out.2 with ⟨e, e0⟩ | ⟨g9, cap9, cur9, e, _, _, h9, h8, _⟩
            · omega
            · unfold maxLen at h8; omega
          clear hy hyL
          go_wp2_with fail
          obtain ⟨xb, hxb⟩ : ∃ xb, wi.heap.size = xb := ⟨_, rfl⟩
          obtain ⟨wj, hwj⟩ := named (wi.alloc (.cells #[.int .i64 b, .int .i64 d] 84))
          rw [← hwj]
          have hbj : Below wi.heap.size wi wj := by rw [hwj]; exact below_alloc1 _
          have kb : Blk wj xb #[.int .i64 b, .int .i64 d] 84 := by rw [hwj]; exact Blk.new _ _ _ _ hxb
          rw [hxb]
          have hgj := HGK.out.add (ys := [xb]) hbj (fun q hq => by
            simp at hq
            subst hq
            exact ⟨by omega, kb.lt⟩)
          have HGJ := Lib.hid hgj
          have HRJ := Lib.hid (HRK.out.below hbj)
          have HKB := Lib.hid kb
          obtain ⟨b0, b1, -, -⟩ := kb.o2
          have hxlt := kb.lt
          clear hbj kb hgj hwj hxb z0 z1 HGK HRK
          go_wp2_with fail
          refine (add_any c d _ (by omega) (by omega) (by omega) (by omega)).mono ?_
          rintro e w13 ⟨rfl, rfl⟩
          obtain ⟨dd, hdd⟩ : ∃ dd, addC c d = dd := ⟨_, rfl⟩
          have hdb := addC_held c d
          rw [hdd] at hdb
          rw [hdd]
          have HDD := Lib.hid hdd
          have hCb : b < (C.set a c).length := by rw [HGJ.out.t.cl]; exact hbN
          obtain ⟨cv, hcv⟩ : ∃ cv, ctL (C.set a c) b = cv := ⟨_, rfl⟩
          have HCV := Lib.hid hcv
          have hcc : wj.cell? ⟨cb, b, none⟩ = some (.int .i64 cv) := by rw [← hcv, ctL_at hCb]; exact HGJ.out.t.c.cell b (numC_at hCb)
          have hclt := HGJ.out.t.c.lt
          obtain ⟨x0, x1, -, -⟩ := HGJ.out.t.t.o2
          have htlt := HGJ.out.t.t.lt
          clear hdd hcv hCb
          by_cases hi : dd = 1152921504606846976
          · have HR : Hid (InRel w N L s D a w.heap.size tb cb bb hb (.slice (some ⟨rg, 0, none⟩) (L a).length rcap) (C.set a c) (.int .i64 ((k + 1 : Nat) : Int)) wj) :=
              Lib.hid ⟨k + 1, hlt, rfl, B2, m2, (HDK.out.inf (by simp) HYL.out (by rw [HCA.out, HDD.out]; exact hi)).congrE HEK.out, HGJ.out.drop, HRJ.out⟩
            have hi1 : (dd != 1152921504606846976) = false := by simpa using hi
            clear hi
            go_wp2_with fail
            go_roundw
            case rel => exact HR.out
            case measure => simp [intOf]; omega
          · have hi1 : (dd != 1152921504606846976) = true := by simpa using hi
            by_cases hcI : cv = 1152921504606846976
            · have hc1 : (cv == 1152921504606846976) = true := by simpa using hcI
              have hnD : b ∉ a :: D := fun hm => by
                have := (HDK.out.din b hm).2
                rw [HCV.out] at this
                omega
              have HND := Lib.hid hnD
              have hin : hld dd = dd := hld_in _ hdb.1 hdb.2
              cases hB : putB N m2 (b : Int) dd with
              | false =>
                have hm0 : ∃ x, m2 b = some x ∧ x ≤ dd := by
                  cases hm : m2 b with
                  | none => rw [putB_none hbN hm] at hB; cases hB
                  | some x =>
                    rw [putB_some hbN hm, hin] at hB
                    exact ⟨x, rfl, by simpa using hB⟩
                obtain ⟨x, hmx, hle⟩ := hm0
                have hnew := (HDK.out.high (by simp) HYL.out HCUR.out d0 hnD hmx (by rw [HCA.out, HDD.out]; exact hle)).congrE HEK.out
                have HNEW := Lib.hid hnew
                have HPM : Hid (putM N m2 (b : Int) dd = m2) := Lib.hid (putM_false hB)
                have HPB := Lib.hid hB
                clear hnew hB hmx hle hnD hin hi hcI
                go_wp2_with fail
                refine (HGJ.out.put b dd (by omega) (by omega) (by omega) (by omega) HPB.out HPM.out).mono ?_
                rintro e w14 ⟨rfl, hg14, hk14⟩
                have HR : Hid (InRel w N L s D a w.heap.size tb cb bb hb (.slice (some ⟨rg, 0, none⟩) (L a).length rcap) (C.set a c) (.int .i64 ((k + 1 : Nat) : Int)) w14) :=
                  Lib.hid ⟨k + 1, hlt, rfl, B2, m2, HNEW.out, hg14.drop, owns_keep HRJ.out hk14 (fun q hq => Or.inr (by rw [hq]; simp))⟩
                clear hg14 hk14
                go_wp2_with fail
                go_roundw
                case rel => exact HR.out
                case measure => simp [intOf]; omega
              | true =>
                have hmx : ∀ x, m2 b = some x → addC (ctL (C.set a c) a) d ≤ x := fun x hm => by
                  rw [putB_some hbN hm, hin] at hB
                  rw [HCA.out, HDD.out]
                  have : dd < x := by simpa using hB
                  omega
                have hnew := (HDK.out.put (by simp) HYL.out hbN HCUR.out d0 (by rw [HCA.out, HDD.out]; omega) hnD hmx).congrE HEK.out
                rw [HCA.out, HDD.out] at hnew
                have HNEW := Lib.hid hnew
                have HPM : Hid (putM N m2 (b : Int) dd = upd m2 b (some dd)) := Lib.hid (by rw [putM_true hB, hin])
                have HPB := Lib.hid hB
                clear hnew hB hmx hnD hin hi hcI
                go_wp2_with fail
                refine (HGJ.out.put b dd (by omega) (by omega) (by omega) (by omega) HPB.out HPM.out).mono ?_
                rintro e w14 ⟨rfl, hg14, hk14⟩
                have hrow14 : StepsO w14 w.heap.size (.slice (some ⟨rg, 0, none⟩) (L a).length rcap) (L a) := owns_keep HRJ.out hk14 (fun q hq => Or.inr (by rw [hq]; simp))
                have kb14 := hk14.blk HKB.out (Or.inr (by simp))
                have hset := hg14.setB b (a : Int)
                have hrow15 : StepsO (w14.setCell ⟨bb, b, none⟩ (.int .i64 (a : Int))) w.heap.size (.slice (some ⟨rg, 0, none⟩) (L a).length rcap) (L a) := owns_set hrow14 hg14.t.b (by decide) _ _
                have HR : Hid (InRel w N L s D a w.heap.size tb cb bb hb (.slice (some ⟨rg, 0, none⟩) (L a).length rcap) (C.set a c) (.int .i64 ((k + 1 : Nat) : Int)) (w14.setCell ⟨bb, b, none⟩ (.int .i64 (a : Int)))) :=
                  Lib.hid ⟨k + 1, hlt, rfl, _, _, HNEW.out, hset.drop, hrow15⟩
                obtain ⟨y0, y1, -, -⟩ := hg14.t.t.o2
                obtain ⟨v0, v1, -, -⟩ := kb14.o2
                have hbl : b < B2.length := by rw [hg14.t.bl]; exact hbN
                obtain ⟨ov, hov⟩ : ∃ v, w14.cell? ⟨bb, b, none⟩ = some v := ⟨_, hg14.t.b.cell b (numC_at hbl)⟩
                have hof := hg14.t.b.free b
                have hbl2 := hg14.t.b.lt
                have htl2 := hg14.t.t.lt
                have hxl2 := kb14.lt
                clear hg14 hk14 hrow14 kb14 hset hrow15 hbl b0 b1 hcc x0 x1
                go_wp2_with fail
                go_roundw
                case rel => exact HR.out
                case measure => simp [intOf]; omega
            · have hc1 : (cv == 1152921504606846976) = false := by simpa using hcI
              have hmD : b ∈ a :: D := Classical.byContradiction fun hn => by
                have := HDK.out.dout b hbN hn
                rw [HCV.out] at this
                exact hcI this
              have HR : Hid (InRel w N L s D a w.heap.size tb cb bb hb (.slice (some ⟨rg, 0, none⟩) (L a).length rcap) (C.set a c) (.int .i64 ((k + 1 : Nat) : Int)) wj) :=
                Lib.hid ⟨k + 1, hlt, rfl, B2, m2, (HDK.out.out (by simp) HYL.out HCUR.out d0 hmD).congrE HEK.out, HGJ.out.drop, HRJ.out⟩
              clear hi hcI hmD
              go_wp2_with fail
              go_roundw
              case rel => exact HR.out
              case measure => simp [intOf]; omega
        · have hle : (L a).length ≤ k := by omega
          have HD5 := Lib.hid (HDK.out.congrE (fun a' y h => Ek_all hle a' y h))
          have hnl : decide (k < (L a).length) = false := by simpa using hlt
          clear hle hlt HDK
          have HG5 : Hid (Gs w wi N w.heap.size tb cb bb hb [] (C.set a c) B2 m2) := Lib.hid (Gs.drop (ys := _) (xs := []) (by rw [List.append_nil]; exact HGK.out))
          clear HGK HRK
          go_wp2_with fail
          obtain ⟨X1, hX1⟩ : ∃ X, popV N m2 = X := ⟨_, rfl⟩
          have HX1 := Lib.hid hX1
          clear hX1
          refine (HG5.out.pop HX1.out rfl).mono ?_
          obtain ⟨za, zc, zo⟩ := X1
          rintro e w15 ⟨rfl, hg15⟩
          have HPW2 : Hid (potW w15 cb N = potL (C.set a c)) := Lib.hid hg15.t.pot
          have HR : Hid (GrowRel w N L s tb cb bb hb (.int .i64 za) (.int .i64 zc) (.bool zo) w15) := Lib.hid ⟨a :: D, _, _, _, _, HD5.out, HX1.out, rfl, rfl, rfl, hg15⟩
          unfold popT
          clear hg15 HG5
          go_wp2_with fail
          go_roundw
          case rel => exact HR.out
          case measure => rw [HPW2.out, HPW.out]; exact HPOT.out

end Go.Proofs.YtgihaakgadmidaaGreat

/-
  The program's walks: looking for the least rows of arcs, the least first.
-/
namespace Go.Proofs.YtgihaakgadmidaaGreat
open HP Go.RowKit

set_option maxHeartbeats 8000000 in
set_option maxRecDepth 100000 in
theorem grow_inside {P : Nat → Prop} {w : World} {p : Nat} {n : NetD} {va vt : Value} (h : GraphAt P w p n va vt) (hn : GrN n) {L : Nat → List It} {N : Nat} (hN : n.a.length = N) (hL : StepsOK L N) {ib : Nat}
    (hst : ∀ (w1 : World) (a : Nat), a < N → Below w.heap.size w w1 → Calls Tryz.prog 40 #[gp p, .int .i64 a, .pointer (some ⟨ib, 0, none⟩)] w1 (StepsPost w1 (L a)))
    (s : Nat) (hs : s < N) : Calls Tryz.prog 39 #[gp p, .int .i64 s, .func (.func 40) #[] #[.pointer (some ⟨ib, 0, none⟩)]] w (GrowPost w N (DjOut L N s)) := by
  have hsh : N ≤ 16384 := by have := hn.few.a; omega
  have HG := Lib.hid h
  have HN := Lib.hid hN
  have HL := Lib.hid hL
  have HST := Lib.hid hst
  clear h hn hN hL hst
  go_enter Tryz.func39, Tryz.ntmps39
  go_wp2_with fail
  obtain ⟨W0, hW0⟩ := named (w.alloc (.cells #[.slice none 0 0, .slice none 0 0] 73))
  rw [← hW0]
  have hb0 : Below w.heap.size w W0 := by rw [hW0]; exact below_alloc1 _
  have K0 : Hid (Blk W0 w.heap.size #[.slice none 0 0, .slice none 0 0] 73) := by rw [hW0]; exact Lib.hid (Blk.new _ _ _ _ rfl)
  have HB0 := Lib.hid hb0
  clear hW0 hb0
  refine (vArcs (HG.out.old HB0.out)).mono ?_
  rw [HN.out]
  rintro e w1 ⟨rfl, hb1⟩
  have HB1 := Lib.hid (bOn6 HB0.out hb1)
  have K1 := Lib.hid (K0.out.keep hb1)
  clear hb1 HB0 K0
  go_wp2_with fail
  obtain ⟨W2, hW2⟩ := named (w1.alloc (.cells #[.int .i64 1152921504606846976] 2))
  rw [← hW2]
  have hb2 : Below w1.heap.size w1 W2 := by rw [hW2]; exact below_alloc1 _
  have k2 : Blk W2 w1.heap.size #[.int .i64 1152921504606846976] 2 := by rw [hW2]; exact Blk.new _ _ _ _ rfl
  have HB2 := Lib.hid (bOn6 HB1.out hb2)
  have K2 := Lib.hid (K1.out.keep hb2)
  have HK2 := Lib.hid k2
  clear hW2 hb2 k2 HB1 K1
  refine (HP.R64.hrepeat N hsh _ _ HK2.out).mono ?_
  rintro e w3 ⟨rfl, hk3, hb3⟩
  have HB3 := Lib.hid (bOn6 HB2.out hb3)
  have K3 := Lib.hid (K2.out.keep hb3)
  have HC3 := Lib.hid hk3
  obtain ⟨cb, hcb⟩ : ∃ cb, W2.heap.size = cb := ⟨_, rfl⟩
  rw [hcb] at HC3
  rw [hcb]
  have HCB : Hid (w.heap.size ≤ cb) := Lib.hid (by rw [← hcb]; exact HB2.out.size)
  clear hb3 hk3 hcb HB2 K2 HK2
  go_wp2_with fail
  obtain ⟨W4, hW4⟩ := named (w3.alloc (.cells #[.int .i64 (-1)] 3))
  rw [← hW4]
  have hb4 : Below w3.heap.size w3 W4 := by rw [hW4]; exact below_alloc1 _
  have k4 : Blk W4 w3.heap.size #[.int .i64 (-1)] 3 := by rw [hW4]; exact Blk.new _ _ _ _ rfl
  have HB4 := Lib.hid (bOn6 HB3.out hb4)
  have K4 := Lib.hid (K3.out.keep hb4)
  have HC4 := Lib.hid (HC3.out.keep hb4)
  have HK4 := Lib.hid k4
  clear hW4 hb4 k4 HB3 K3 HC3
  refine (HP.hrepeat N hsh _ _ HK4.out).mono ?_
  rintro e w5 ⟨rfl, hk5, hb5⟩
  have HB5 := Lib.hid (bOn6 HB4.out hb5)
  have K5 := Lib.hid (K4.out.keep hb5)
  have HC5 := Lib.hid (HC4.out.keep hb5)
  have HP5 := Lib.hid hk5
  obtain ⟨bb, hbb⟩ : ∃ bb, W4.heap.size = bb := ⟨_, rfl⟩
  rw [hbb] at HP5
  rw [hbb]
  have HBB : Hid (w.heap.size ≤ bb) := Lib.hid (by rw [← hbb]; exact HB4.out.size)
  clear hb5 hk5 hbb HB4 K4 HC4 HK4
  go_wp2_with fail
  obtain ⟨W6, hW6⟩ := named (w5.alloc (.cells #[.slice (some ⟨cb, 0, none⟩) N N, .slice (some ⟨bb, 0, none⟩) N N] 73))
  rw [← hW6]
  have hb6 : Below w5.heap.size w5 W6 := by rw [hW6]; exact below_alloc1 _
  have k6 : Blk W6 w5.heap.size #[.slice (some ⟨cb, 0, none⟩) N N, .slice (some ⟨bb, 0, none⟩) N N] 73 := by rw [hW6]; exact Blk.new _ _ _ _ rfl
  have HT6 : Hid (TreeAt W6 N w5.heap.size cb bb (List.replicate N 1152921504606846976) (List.replicate N (-1))) := Lib.hid ⟨k6, by rw [numC_rep]; exact HC5.out.keep hb6, by rw [numC_rep]; exact HP5.out.keep hb6, by simp, by simp⟩
  have HB6 := Lib.hid (bOn6 HB5.out hb6)
  have K6 := Lib.hid (K5.out.keep hb6)
  obtain ⟨tb, htb⟩ : ∃ tb, w5.heap.size = tb := ⟨_, rfl⟩
  have hlt : w.heap.size < tb := by rw [← htb]; exact K5.out.lt
  rw [htb] at HT6
  rw [htb]
  have HTB := Lib.hid hlt
  clear hb6 k6 htb hlt HB5 K5 HC5 HP5 hW6
  refine (Hk.new w W6 HB6.out.size (bs := [w.heap.size, tb, cb, bb]) (fun b hb => by
    simp at hb
    rcases hb with rfl | rfl | rfl | rfl
    · exact K6.out.lt
    · exact HT6.out.t.lt
    · exact HT6.out.c.lt
    · exact HT6.out.b.lt) hsh).mono ?_
  rintro e w7 ⟨hb, rfl, hh, hb7⟩
  have HG7 : Hid (Gs w w7 N w.heap.size tb cb bb hb [] (List.replicate N 1152921504606846976) (List.replicate N (-1)) (fun _ => none)) := Lib.hid ⟨HT6.out.old hb7, K6.out.keep hb7, hh, bOn6 HB6.out hb7, fun q hq => (by cases hq), HCB.out, HBB.out, HTB.out⟩
  clear hh hb7 HB6 K6 HT6
  go_wp2_with fail
  have HPB : Hid (putB N (fun _ => none) s 0 = true) := Lib.hid (putB_none hs rfl)
  have HPM : Hid (putM N (fun _ => none) s 0 = upd (fun _ => none) s (some 0)) := Lib.hid (by rw [putM_true HPB.out]; rfl)
  refine (HG7.out.put s 0 (by omega) (by omega) (by omega) (by omega) HPB.out HPM.out).mono ?_
  rintro e w8 ⟨rfl, g8, -⟩
  have HG8 := Lib.hid g8
  clear g8 HPB HPM HG7
  go_wp2_with fail
  obtain ⟨X0, hX0⟩ : ∃ X, popV N (upd (fun _ => none) s (some 0)) = X := ⟨_, rfl⟩
  have HX0 := Lib.hid hX0
  clear hX0
  refine (HG8.out.pop HX0.out rfl).mono ?_
  obtain ⟨xa, xc, xo⟩ := X0
  rintro e w9 ⟨rfl, g9⟩
  have HG9 := Lib.hid g9
  unfold popT
  clear g9 HG8
  go_wp2_with fail
  go_loopw [10, 11, 12, 14, 15] (fun v10 v11 v12 _ _ wr => GrowRel w N L s tb cb bb hb v10 v11 v12 wr) (fun _ _ _ _ _ wr => potW wr cb N)
  case atStart => exact ⟨[], _, _, _, _, (Dj.begin hs).congrE (fun a y h => by cases h.1), HX0.out, rfl, rfl, rfl, HG9.out⟩
  case round =>
    obtain ⟨D, C, B, m, ⟨ya, yc, yo⟩, hdj, hpv, rfl, rfl, rfl, hg⟩ := hrel
    have HDJ := Lib.hid hdj
    have HPV := Lib.hid hpv
    have HGS := Lib.hid hg
    clear hdj hpv hg HG9 HX0
    obtain ⟨wo, rfl⟩ : ∃ wo : World, wo = wr := ⟨_, rfl⟩
    rcases lst_spec m N with ⟨hl, hnone⟩ | ⟨⟨a, c⟩, hl, hlst⟩
    · have hpv := HPV.out
      unfold popV at hpv
      rw [hl] at hpv
      simp only [Prod.mk.injEq] at hpv
      obtain ⟨rfl, rfl, rfl⟩ := hpv
      have hpm : popM N m = m := by unfold popM; rw [hl]
      have HOUT := Lib.hid (Dj.done HDJ.out hnone hs)
      have HGS2 := HGS
      rw [hpm] at HGS2
      obtain ⟨x0, x1, f0, f1⟩ := HGS.out.t.t.o2
      obtain ⟨y0, y1, g0, g1⟩ := HGS.out.r.o2
      have hlt0 := HGS.out.r.lt
      have hlt1 := HGS.out.t.t.lt
      have hne : w.heap.size ≠ tb := by have := HGS.out.ord; omega
      clear hl hnone hpm
      go_wp2_with fail
      obtain ⟨we, hwe⟩ := named ((wo.setCell ⟨w.heap.size, 0, none⟩ (.slice (some ⟨cb, 0, none⟩) N N)).setCell ⟨w.heap.size, 1, none⟩ (.slice (some ⟨bb, 0, none⟩) N N))
      rw [← hwe]
      have kr : Blk we w.heap.size #[.slice (some ⟨cb, 0, none⟩) N N, .slice (some ⟨bb, 0, none⟩) N N] 73 := by
        rw [hwe]
        have := (HGS.out.r.set 0 (.slice (some ⟨cb, 0, none⟩) N N)).set 1 (.slice (some ⟨bb, 0, none⟩) N N)
        simpa using this
      have hkp : Keep (fun b => b ≠ w.heap.size) wo we := by rw [hwe]; exact ((Keep.refl _ _).setCell (fun h => h rfl) _ _).setCell (fun h => h rfl) _ _
      have hP : GrowPost w N (DjOut L N s) (.returned (.agg #[.slice (some ⟨cb, 0, none⟩) N N, .slice (some ⟨bb, 0, none⟩) N N])) we :=
        ⟨cb, bb, C, B, rfl, hkp.blk HGS.out.t.c (blk_apart HGS.out.t.c HGS.out.r (by decide)), hkp.blk HGS.out.t.b (blk_apart HGS.out.t.b HGS.out.r (by decide)), HGS.out.c0, HGS.out.b0, HGS.out.t.cl, HGS.out.t.bl, HOUT.out, HGS.out.b.trans (hkp.below (fun b hb e => by omega) HGS.out.b.size)⟩
      obtain ⟨r0, r1, -, -⟩ := kr.o2
      exact bodyPost_ret (v := .agg #[.slice (some ⟨cb, 0, none⟩) N N, .slice (some ⟨bb, 0, none⟩) N N]) (by simp [results, Tryz.results39, go_sem, r0, r1]) rfl hP
    · have hpv := HPV.out
      unfold popV at hpv
      rw [hl] at hpv
      simp only [Prod.mk.injEq] at hpv
      obtain ⟨rfl, rfl, rfl⟩ := hpv
      have hpm : popM N m = upd m a none := by unfold popM; rw [hl]
      rw [hpm] at HGS
      obtain ⟨haN, hma, -⟩ := hlst
      simp only [] at haN hma
      obtain ⟨-, haD, c0, c1, -⟩ := HDJ.out.hp a c hma
      obtain ⟨hdj2, hcur⟩ := HDJ.out.pop (lst_of hl)
      have HD2 := Lib.hid hdj2
      have HCUR := Lib.hid hcur
      have hca : ctL (C.set a c) a = c := by rw [ctL_set C a (by rw [HDJ.out.cl]; exact haN), if_pos rfl]
      have HCA := Lib.hid hca
      have HPOT : Hid (potL (C.set a c) < potL C) := Lib.hid (by
        have h1 := HDJ.out.dout a haN haD
        have h2 : a < C.length := by rw [HDJ.out.cl]; exact haN
        rw [ctL_at h2] at h1
        exact potL_set C a h2 c c0 (by omega))
      have HPW : Hid (potW wo cb N = potL C) := Lib.hid HGS.out.t.pot
      obtain ⟨x0, x1, f0, f1⟩ := HGS.out.t.t.o2
      have hcl : a < C.length := by rw [HDJ.out.cl]; exact haN
      obtain ⟨cv, hcell⟩ : ∃ v, wo.cell? ⟨cb, a, none⟩ = some v := ⟨_, HGS.out.t.c.cell a (numC_at hcl)⟩
      have hcfr := HGS.out.t.c.free a
      have hclt := HGS.out.t.c.lt
      have hni : (a : Int) < (N : Int) := by omega
      clear hl hpm hma hdj2 hcur hca hcl HDJ
      go_wp2_with fail
      obtain ⟨wp, hwp⟩ := named (wo.setCell ⟨cb, a, none⟩ (.int .i64 c))
      rw [← hwp]
      have hg2 := HGS.out.setC a c
      rw [← hwp] at hg2
      have HG2 := Lib.hid hg2
      clear hg2 hwp x0 x1 f0 f1 hcell hcfr hclt HGS
      refine (HST.out wp a haN HG2.out.b).mono ?_
      rintro e w11 ⟨rv, rfl, hrow, hb11⟩
      obtain ⟨rq, rcap, rfl⟩ := hrow.shape
      have hg3 := HG2.out.add (ys := (Value.slice rq (L a).length rcap).ownBlock.toList) hb11 (fun q hq => by
        simp only [Option.mem_toList] at hq
        obtain ⟨h1, h2⟩ := World.ownsRow.lt hrow q hq
        exact ⟨h1, h2⟩)
      rw [List.append_nil] at hg3
      have HG3 := Lib.hid hg3
      have HROW := Lib.hid (hrow.base HG2.out.b.size)
      clear hrow hg3 hb11 HG2
      go_wp2_with fail
      go_loopw [14, 15, 53] (fun _ _ v wr => InRel w N L s D a w.heap.size tb cb bb hb (.slice rq (L a).length rcap) (C.set a c) v wr) (fun _ _ v _ => (L a).length - (intOf v).toNat)
      case atStart => exact ⟨0, Nat.zero_le _, rfl, B, _, HD2.out.congrE (fun a' y h => Ek_zero a' y h), HG3.out, HROW.out⟩
      case round =>
        obtain ⟨k, hk, rfl, B2, m2, hdj, hg, hrow⟩ := hrel
        obtain ⟨wi, rfl⟩ : ∃ wi : World, wi = wr := ⟨_, rfl⟩
        have HDK := Lib.hid hdj
        have HGK := Lib.hid hg
        have HRK := Lib.hid hrow
        clear hdj hg hrow HG3 HROW HD2
        by_cases hlt : k < (L a).length
        · obtain ⟨⟨b, d⟩, hy⟩ : ∃ y, (L a)[k] = y := ⟨_, rfl⟩
          have hyL : (b, d) ∈ L a := by rw [← hy]; exact List.getElem_mem hlt
          have HYL := Lib.hid hyL
          obtain ⟨hbN, d0, d1⟩ := HL.out a haN _ hyL
          simp only [] at hbN d0 d1
          have HEK : Hid (∀ a' y, Ek L D a (k + 1) a' y → Eadd (Ek L D a k) a (b, d) a' y) := Lib.hid (fun a' y h => by rw [← hy]; exact Ek_succ hlt a' y h)
          obtain ⟨rg, rfl, -, hrlt, z0, z1⟩ := HRK.out.at hlt
          rw [hy] at z0 z1
          simp only [] at z0 z1
          have hli : (k : Int) < ((L a).length : Int) := by omega
          have hbi : (b : Int) < (N : Int) := by omega
          have hlen : (L a).length ≤ 9223372036854775807 := by
            rcases HRK.out.2 with ⟨e, e0⟩ | ⟨g9, cap9, cur9, e, _, _, h9, h8, _⟩
            · omega
            · unfold maxLen at h8; omega
          clear hy hyL
          go_wp2_with fail
          obtain ⟨xb, hxb⟩ : ∃ xb, wi.heap.size = xb := ⟨_, rfl⟩
          obtain ⟨wj, hwj⟩ := named (wi.alloc (.cells #[.int .i64 b, .int .i64 d] 84))
          rw [← hwj]
          have hbj : Below wi.heap.size wi wj := by rw [hwj]; exact below_alloc1 _
          have kb : Blk wj xb #[.int .i64 b, .int .i64 d] 84 := by rw [hwj]; exact Blk.new _ _ _ _ hxb
          rw [hxb]
          have hgj := HGK.out.add (ys := [xb]) hbj (fun q hq => by
            simp at hq
            subst hq
            exact ⟨by omega, kb.lt⟩)
          have HGJ := Lib.hid hgj
          have HRJ := Lib.hid (HRK.out.below hbj)
          have HKB := Lib.hid kb
          obtain ⟨b0, b1, -, -⟩ := kb.o2
          have hxlt := kb.lt
          clear hbj kb hgj hwj hxb z0 z1 HGK HRK
          go_wp2_with fail
          refine (add_any c d _ (by omega) (by omega) (by omega) (by omega)).mono ?_
          rintro e w13 ⟨rfl, rfl⟩
          obtain ⟨dd, hdd⟩ : ∃ dd, addC c d = dd := ⟨_, rfl⟩
          have hdb := addC_held c d
          rw [hdd] at hdb
          rw [hdd]
          have HDD := Lib.hid hdd
          have hCb : b < (C.set a c).length := by rw [HGJ.out.t.cl]; exact hbN
          obtain ⟨cv, hcv⟩ : ∃ cv, ctL (C.set a c) b = cv := ⟨_, rfl⟩
          have HCV := Lib.hid hcv
          have hcc : wj.cell? ⟨cb, b, none⟩ = some (.int .i64 cv) := by rw [← hcv, ctL_at hCb]; exact HGJ.out.t.c.cell b (numC_at hCb)
          have hclt := HGJ.out.t.c.lt
          obtain ⟨x0, x1, -, -⟩ := HGJ.out.t.t.o2
          have htlt := HGJ.out.t.t.lt
          clear hdd hcv hCb
          by_cases hi : dd = 1152921504606846976
          · have HR : Hid (InRel w N L s D a w.heap.size tb cb bb hb (.slice (some ⟨rg, 0, none⟩) (L a).length rcap) (C.set a c) (.int .i64 ((k + 1 : Nat) : Int)) wj) :=
              Lib.hid ⟨k + 1, hlt, rfl, B2, m2, (HDK.out.inf (by simp) HYL.out (by rw [HCA.out, HDD.out]; exact hi)).congrE HEK.out, HGJ.out.drop, HRJ.out⟩
            have hi1 : (dd != 1152921504606846976) = false := by simpa using hi
            clear hi
            go_wp2_with fail
            go_roundw
            case rel => exact HR.out
            case measure => simp [intOf]; omega
          · have hi1 : (dd != 1152921504606846976) = true := by simpa using hi
            by_cases hcI : cv = 1152921504606846976
            · have hc1 : (cv == 1152921504606846976) = true := by simpa using hcI
              have hnD : b ∉ a :: D := fun hm => by
                have := (HDK.out.din b hm).2
                rw [HCV.out] at this
                omega
              have HND := Lib.hid hnD
              have hin : hld dd = dd := hld_in _ hdb.1 hdb.2
              cases hB : putB N m2 (b : Int) dd with
              | false =>
                have hm0 : ∃ x, m2 b = some x ∧ x ≤ dd := by
                  cases hm : m2 b with
                  | none => rw [putB_none hbN hm] at hB; cases hB
                  | some x =>
                    rw [putB_some hbN hm, hin] at hB
                    exact ⟨x, rfl, by simpa using hB⟩
                obtain ⟨x, hmx, hle⟩ := hm0
                have hnew := (HDK.out.high (by simp) HYL.out HCUR.out d0 hnD hmx (by rw [HCA.out, HDD.out]; exact hle)).congrE HEK.out
                have HNEW := Lib.hid hnew
                have HPM : Hid (putM N m2 (b : Int) dd = m2) := Lib.hid (putM_false hB)
                have HPB := Lib.hid hB
                clear hnew hB hmx hle hnD hin hi hcI
                go_wp2_with fail
                refine (HGJ.out.put b dd (by omega) (by omega) (by omega) (by omega) HPB.out HPM.out).mono ?_
                rintro e w14 ⟨rfl, hg14, hk14⟩
                have HR : Hid (InRel w N L s D a w.heap.size tb cb bb hb (.slice (some ⟨rg, 0, none⟩) (L a).length rcap) (C.set a c) (.int .i64 ((k + 1 : Nat) : Int)) w14) :=
                  Lib.hid ⟨k + 1, hlt, rfl, B2, m2, HNEW.out, hg14.drop, owns_keep HRJ.out hk14 (fun q hq => Or.inr (by rw [hq]; simp))⟩
                clear hg14 hk14
                go_wp2_with fail
                go_roundw
                case rel => exact HR.out
                case measure => simp [intOf]; omega
              | true =>
                have hmx : ∀ x, m2 b = some x → addC (ctL (C.set a c) a) d ≤ x := fun x hm => by
                  rw [putB_some hbN hm, hin] at hB
                  rw [HCA.out, HDD.out]
                  have : dd < x := by simpa using hB
                  omega
                have hnew := (HDK.out.put (by simp) HYL.out hbN HCUR.out d0 (by rw [HCA.out, HDD.out]; omega) hnD hmx).congrE HEK.out
                rw [HCA.out, HDD.out] at hnew
                have HNEW := Lib.hid hnew
                have HPM : Hid (putM N m2 (b : Int) dd = upd m2 b (some dd)) := Lib.hid (by rw [putM_true hB, hin])
                have HPB := Lib.hid hB
                clear hnew hB hmx hnD hin hi hcI
                go_wp2_with fail
                refine (HGJ.out.put b dd (by omega) (by omega) (by omega) (by omega) HPB.out HPM.out).mono ?_
                rintro e w14 ⟨rfl, hg14, hk14⟩
                have hrow14 : StepsO w14 w.heap.size (.slice (some ⟨rg, 0, none⟩) (L a).length rcap) (L a) := owns_keep HRJ.out hk14 (fun q hq => Or.inr (by rw [hq]; simp))
                have kb14 := hk14.blk HKB.out (Or.inr (by simp))
                have hset := hg14.setB b (a : Int)
                have hrow15 : StepsO (w14.setCell ⟨bb, b, none⟩ (.int .i64 (a : Int))) w.heap.size (.slice (some ⟨rg, 0, none⟩) (L a).length rcap) (L a) := owns_set hrow14 hg14.t.b (by decide) _ _
                have HR : Hid (InRel w N L s D a w.heap.size tb cb bb hb (.slice (some ⟨rg, 0, none⟩) (L a).length rcap) (C.set a c) (.int .i64 ((k + 1 : Nat) : Int)) (w14.setCell ⟨bb, b, none⟩ (.int .i64 (a : Int)))) :=
                  Lib.hid ⟨k + 1, hlt, rfl, _, _, HNEW.out, hset.drop, hrow15⟩
                obtain ⟨y0, y1, -, -⟩ := hg14.t.t.o2
                obtain ⟨v0, v1, -, -⟩ := kb14.o2
                have hbl : b < B2.length := by rw [hg14.t.bl]; exact hbN
                obtain ⟨ov, hov⟩ : ∃ v, w14.cell? ⟨bb, b, none⟩ = some v := ⟨_, hg14.t.b.cell b (numC_at hbl)⟩
                have hof := hg14.t.b.free b
                have hbl2 := hg14.t.b.lt
                have htl2 := hg14.t.t.lt
                have hxl2 := kb14.lt
                clear hg14 hk14 hrow14 kb14 hset hrow15 hbl b0 b1 hcc x0 x1
                go_wp2_with fail
                go_roundw
                case rel => exact HR.out
                case measure => simp [intOf]; omega
            · have hc1 : (cv == 1152921504606846976) = false := by simpa using hcI
              have hmD : b ∈ a :: D := Classical.byContradiction fun hn => by
                have := HDK.out.dout b hbN hn
                rw [HCV.out] at this
                exact hcI this
              have HR : Hid (InRel w N L s D a w.heap.size tb cb bb hb (.slice (some ⟨rg, 0, none⟩) (L a).length rcap) (C.set a c) (.int .i64 ((k + 1 : Nat) : Int)) wj) :=
                Lib.hid ⟨k + 1, hlt, rfl, B2, m2, (HDK.out.out (by simp) HYL.out HCUR.out d0 hmD).congrE HEK.out, HGJ.out.drop, HRJ.out⟩
              clear hi hcI hmD
              go_wp2_with fail
              go_roundw
              case rel => exact HR.out
              case measure => simp [intOf]; omega
        · have hle : (L a).length ≤ k := by omega
          have HD5 := Lib.hid (HDK.out.congrE (fun a' y h => Ek_all hle a' y h))
          have hnl : decide (k < (L a).length) = false := by simpa using hlt
          clear hle hlt HDK
          have HG5 : Hid (Gs w wi N w.heap.size tb cb bb hb [] (C.set a c) B2 m2) := Lib.hid (Gs.drop (ys := _) (xs := []) (by rw [List.append_nil]; exact HGK.out))
          clear HGK HRK
          go_wp2_with fail
          obtain ⟨X1, hX1⟩ : ∃ X, popV N m2 = X := ⟨_, rfl⟩
          have HX1 := Lib.hid hX1
          clear hX1
          refine (HG5.out.pop HX1.out rfl).mono ?_
          obtain ⟨za, zc, zo⟩ := X1
          rintro e w15 ⟨rfl, hg15⟩
          have HPW2 : Hid (potW w15 cb N = potL (C.set a c)) := Lib.hid hg15.t.pot
          have HR : Hid (GrowRel w N L s tb cb bb hb (.int .i64 za) (.int .i64 zc) (.bool zo) w15) := Lib.hid ⟨a :: D, _, _, _, _, HD5.out, HX1.out, rfl, rfl, rfl, hg15⟩
          unfold popT
          clear hg15 HG5
          go_wp2_with fail
          go_roundw
          case rel => exact HR.out
          case measure => rw [HPW2.out, HPW.out]; exact HPOT.out

set_option maxHeartbeats 8000000 in
set_option maxRecDepth 100000 in
theorem grow_onward_none {P : Nat → Prop} {w : World} {p : Nat} {n : NetD} {va vt : Value} (h : GraphAt P w p n va vt) (hn : GrN n) {N : Nat} (hN : n.a.length = N)
    (s : Int) (hs : s < 0 ∨ (N : Int) ≤ s) (s0 : -9223372036854775808 ≤ s) (s1 : s ≤ 9223372036854775807) : Calls Tryz.prog 39 #[gp p, .int .i64 s, .func (.func 31) #[] #[]] w (GrowPost w N (fun C _ => C = List.replicate N 1152921504606846976)) := by
  have hsh : N ≤ 16384 := by have := hn.few.a; omega
  have HG := Lib.hid h
  have HN := Lib.hid hN
  clear h hn hN
  go_enter Tryz.func39, Tryz.ntmps39
  go_wp2_with fail
  obtain ⟨W0, hW0⟩ := named (w.alloc (.cells #[.slice none 0 0, .slice none 0 0] 73))
  rw [← hW0]
  have hb0 : Below w.heap.size w W0 := by rw [hW0]; exact below_alloc1 _
  have K0 : Hid (Blk W0 w.heap.size #[.slice none 0 0, .slice none 0 0] 73) := by rw [hW0]; exact Lib.hid (Blk.new _ _ _ _ rfl)
  have HB0 := Lib.hid hb0
  clear hW0 hb0
  refine (vArcs (HG.out.old HB0.out)).mono ?_
  rw [HN.out]
  rintro e w1 ⟨rfl, hb1⟩
  have HB1 := Lib.hid (bOn6 HB0.out hb1)
  have K1 := Lib.hid (K0.out.keep hb1)
  clear hb1 HB0 K0
  go_wp2_with fail
  obtain ⟨W2, hW2⟩ := named (w1.alloc (.cells #[.int .i64 1152921504606846976] 2))
  rw [← hW2]
  have hb2 : Below w1.heap.size w1 W2 := by rw [hW2]; exact below_alloc1 _
  have k2 : Blk W2 w1.heap.size #[.int .i64 1152921504606846976] 2 := by rw [hW2]; exact Blk.new _ _ _ _ rfl
  have HB2 := Lib.hid (bOn6 HB1.out hb2)
  have K2 := Lib.hid (K1.out.keep hb2)
  have HK2 := Lib.hid k2
  clear hW2 hb2 k2 HB1 K1
  refine (HP.R64.hrepeat N hsh _ _ HK2.out).mono ?_
  rintro e w3 ⟨rfl, hk3, hb3⟩
  have HB3 := Lib.hid (bOn6 HB2.out hb3)
  have K3 := Lib.hid (K2.out.keep hb3)
  have HC3 := Lib.hid hk3
  obtain ⟨cb, hcb⟩ : ∃ cb, W2.heap.size = cb := ⟨_, rfl⟩
  rw [hcb] at HC3
  rw [hcb]
  have HCB : Hid (w.heap.size ≤ cb) := Lib.hid (by rw [← hcb]; exact HB2.out.size)
  clear hb3 hk3 hcb HB2 K2 HK2
  go_wp2_with fail
  obtain ⟨W4, hW4⟩ := named (w3.alloc (.cells #[.int .i64 (-1)] 3))
  rw [← hW4]
  have hb4 : Below w3.heap.size w3 W4 := by rw [hW4]; exact below_alloc1 _
  have k4 : Blk W4 w3.heap.size #[.int .i64 (-1)] 3 := by rw [hW4]; exact Blk.new _ _ _ _ rfl
  have HB4 := Lib.hid (bOn6 HB3.out hb4)
  have K4 := Lib.hid (K3.out.keep hb4)
  have HC4 := Lib.hid (HC3.out.keep hb4)
  have HK4 := Lib.hid k4
  clear hW4 hb4 k4 HB3 K3 HC3
  refine (HP.hrepeat N hsh _ _ HK4.out).mono ?_
  rintro e w5 ⟨rfl, hk5, hb5⟩
  have HB5 := Lib.hid (bOn6 HB4.out hb5)
  have K5 := Lib.hid (K4.out.keep hb5)
  have HC5 := Lib.hid (HC4.out.keep hb5)
  have HP5 := Lib.hid hk5
  obtain ⟨bb, hbb⟩ : ∃ bb, W4.heap.size = bb := ⟨_, rfl⟩
  rw [hbb] at HP5
  rw [hbb]
  have HBB : Hid (w.heap.size ≤ bb) := Lib.hid (by rw [← hbb]; exact HB4.out.size)
  clear hb5 hk5 hbb HB4 K4 HC4 HK4
  go_wp2_with fail
  obtain ⟨W6, hW6⟩ := named (w5.alloc (.cells #[.slice (some ⟨cb, 0, none⟩) N N, .slice (some ⟨bb, 0, none⟩) N N] 73))
  rw [← hW6]
  have hb6 : Below w5.heap.size w5 W6 := by rw [hW6]; exact below_alloc1 _
  have k6 : Blk W6 w5.heap.size #[.slice (some ⟨cb, 0, none⟩) N N, .slice (some ⟨bb, 0, none⟩) N N] 73 := by rw [hW6]; exact Blk.new _ _ _ _ rfl
  have HT6 : Hid (TreeAt W6 N w5.heap.size cb bb (List.replicate N 1152921504606846976) (List.replicate N (-1))) := Lib.hid ⟨k6, by rw [numC_rep]; exact HC5.out.keep hb6, by rw [numC_rep]; exact HP5.out.keep hb6, by simp, by simp⟩
  have HB6 := Lib.hid (bOn6 HB5.out hb6)
  have K6 := Lib.hid (K5.out.keep hb6)
  obtain ⟨tb, htb⟩ : ∃ tb, w5.heap.size = tb := ⟨_, rfl⟩
  have hlt : w.heap.size < tb := by rw [← htb]; exact K5.out.lt
  rw [htb] at HT6
  rw [htb]
  have HTB := Lib.hid hlt
  clear hb6 k6 htb hlt HB5 K5 HC5 HP5 hW6
  refine (Hk.new w W6 HB6.out.size (bs := [w.heap.size, tb, cb, bb]) (fun b hb => by
    simp at hb
    rcases hb with rfl | rfl | rfl | rfl
    · exact K6.out.lt
    · exact HT6.out.t.lt
    · exact HT6.out.c.lt
    · exact HT6.out.b.lt) hsh).mono ?_
  rintro e w7 ⟨hb, rfl, hh, hb7⟩
  have HG7 : Hid (Gs w w7 N w.heap.size tb cb bb hb [] (List.replicate N 1152921504606846976) (List.replicate N (-1)) (fun _ => none)) := Lib.hid ⟨HT6.out.old hb7, K6.out.keep hb7, hh, bOn6 HB6.out hb7, fun q hq => (by cases hq), HCB.out, HBB.out, HTB.out⟩
  clear hh hb7 HB6 K6 HT6
  go_wp2_with fail
  have HPB : Hid (putB N (fun _ => none) s 0 = false) := Lib.hid (putB_out hs)
  have HPM : Hid (putM N (fun _ => none) s 0 = fun _ => none) := Lib.hid (putM_false HPB.out)
  refine (HG7.out.put s 0 s0 s1 (by omega) (by omega) HPB.out HPM.out).mono ?_
  rintro e w8 ⟨rfl, g8, -⟩
  have HG8 := Lib.hid g8
  have hl0 : lst (fun _ => none) N = none := by
    rcases lst_spec (fun _ => none) N with ⟨h, -⟩ | ⟨x, -, h⟩
    · exact h
    · have := h.2.1
      cases this
  have HX0 : Hid (popV N (fun _ => none) = (0, 0, false)) := Lib.hid (by unfold popV; rw [hl0])
  clear g8 HPB HPM HG7 hl0
  go_wp2_with fail
  refine (HG8.out.pop HX0.out rfl).mono ?_
  rintro e wo ⟨rfl, g9⟩
  have HGS := Lib.hid g9
  unfold popT
  clear g9 HG8 HX0
  obtain ⟨x0, x1, f0, f1⟩ := HGS.out.t.t.o2
  obtain ⟨y0, y1, g0, g1⟩ := HGS.out.r.o2
  have hlt0 := HGS.out.r.lt
  have hlt1 := HGS.out.t.t.lt
  have hne : w.heap.size ≠ tb := by have := HGS.out.ord; omega
  go_wp2_with fail
  refine wp_loop_rounds 1 ?_
  rw [rounds_succ]
  go_wp2_with fail
  obtain ⟨we, hwe⟩ := named ((wo.setCell ⟨w.heap.size, 0, none⟩ (.slice (some ⟨cb, 0, none⟩) N N)).setCell ⟨w.heap.size, 1, none⟩ (.slice (some ⟨bb, 0, none⟩) N N))
  rw [← hwe]
  have kr : Blk we w.heap.size #[.slice (some ⟨cb, 0, none⟩) N N, .slice (some ⟨bb, 0, none⟩) N N] 73 := by
    rw [hwe]
    have := (HGS.out.r.set 0 (.slice (some ⟨cb, 0, none⟩) N N)).set 1 (.slice (some ⟨bb, 0, none⟩) N N)
    simpa using this
  have hkp : Keep (fun b => b ≠ w.heap.size) wo we := by rw [hwe]; exact ((Keep.refl _ _).setCell (fun h => h rfl) _ _).setCell (fun h => h rfl) _ _
  have hP : GrowPost w N (fun C _ => C = List.replicate N 1152921504606846976) (.returned (.agg #[.slice (some ⟨cb, 0, none⟩) N N, .slice (some ⟨bb, 0, none⟩) N N])) we :=
    ⟨cb, bb, _, _, rfl, hkp.blk HGS.out.t.c (blk_apart HGS.out.t.c HGS.out.r (by decide)), hkp.blk HGS.out.t.b (blk_apart HGS.out.t.b HGS.out.r (by decide)), HGS.out.c0, HGS.out.b0, HGS.out.t.cl, HGS.out.t.bl, rfl, HGS.out.b.trans (hkp.below (fun b hb e => by omega) HGS.out.b.size)⟩
  obtain ⟨r0, r1, -, -⟩ := kr.o2
  exact bodyPost_ret (v := .agg #[.slice (some ⟨cb, 0, none⟩) N N, .slice (some ⟨bb, 0, none⟩) N N]) (by simp [results, Tryz.results39, go_sem, r0, r1]) rfl hP

set_option maxHeartbeats 8000000 in
set_option maxRecDepth 100000 in
theorem grow_backward_none {P : Nat → Prop} {w : World} {p : Nat} {n : NetD} {va vt : Value} (h : GraphAt P w p n va vt) (hn : GrN n) {N : Nat} (hN : n.a.length = N)
    (s : Int) (hs : s < 0 ∨ (N : Int) ≤ s) (s0 : -9223372036854775808 ≤ s) (s1 : s ≤ 9223372036854775807) : Calls Tryz.prog 39 #[gp p, .int .i64 s, .func (.func 32) #[] #[]] w (GrowPost w N (fun C _ => C = List.replicate N 1152921504606846976)) := by
  have hsh : N ≤ 16384 := by have := hn.few.a; omega
  have HG := Lib.hid h
  have HN := Lib.hid hN
  clear h hn hN
  go_enter Tryz.func39, Tryz.ntmps39
  go_wp2_with fail
  obtain ⟨W0, hW0⟩ := named (w.alloc (.cells #[.slice none 0 0, .slice none 0 0] 73))
  rw [← hW0]
  have hb0 : Below w.heap.size w W0 := by rw [hW0]; exact below_alloc1 _
  have K0 : Hid (Blk W0 w.heap.size #[.slice none 0 0, .slice none 0 0] 73) := by rw [hW0]; exact Lib.hid (Blk.new _ _ _ _ rfl)
  have HB0 := Lib.hid hb0
  clear hW0 hb0
  refine (vArcs (HG.out.old HB0.out)).mono ?_
  rw [HN.out]
  rintro e w1 ⟨rfl, hb1⟩
  have HB1 := Lib.hid (bOn6 HB0.out hb1)
  have K1 := Lib.hid (K0.out.keep hb1)
  clear hb1 HB0 K0
  go_wp2_with fail
  obtain ⟨W2, hW2⟩ := named (w1.alloc (.cells #[.int .i64 1152921504606846976] 2))
  rw [← hW2]
  have hb2 : Below w1.heap.size w1 W2 := by rw [hW2]; exact below_alloc1 _
  have k2 : Blk W2 w1.heap.size #[.int .i64 1152921504606846976] 2 := by rw [hW2]; exact Blk.new _ _ _ _ rfl
  have HB2 := Lib.hid (bOn6 HB1.out hb2)
  have K2 := Lib.hid (K1.out.keep hb2)
  have HK2 := Lib.hid k2
  clear hW2 hb2 k2 HB1 K1
  refine (HP.R64.hrepeat N hsh _ _ HK2.out).mono ?_
  rintro e w3 ⟨rfl, hk3, hb3⟩
  have HB3 := Lib.hid (bOn6 HB2.out hb3)
  have K3 := Lib.hid (K2.out.keep hb3)
  have HC3 := Lib.hid hk3
  obtain ⟨cb, hcb⟩ : ∃ cb, W2.heap.size = cb := ⟨_, rfl⟩
  rw [hcb] at HC3
  rw [hcb]
  have HCB : Hid (w.heap.size ≤ cb) := Lib.hid (by rw [← hcb]; exact HB2.out.size)
  clear hb3 hk3 hcb HB2 K2 HK2
  go_wp2_with fail
  obtain ⟨W4, hW4⟩ := named (w3.alloc (.cells #[.int .i64 (-1)] 3))
  rw [← hW4]
  have hb4 : Below w3.heap.size w3 W4 := by rw [hW4]; exact below_alloc1 _
  have k4 : Blk W4 w3.heap.size #[.int .i64 (-1)] 3 := by rw [hW4]; exact Blk.new _ _ _ _ rfl
  have HB4 := Lib.hid (bOn6 HB3.out hb4)
  have K4 := Lib.hid (K3.out.keep hb4)
  have HC4 := Lib.hid (HC3.out.keep hb4)
  have HK4 := Lib.hid k4
  clear hW4 hb4 k4 HB3 K3 HC3
  refine (HP.hrepeat N hsh _ _ HK4.out).mono ?_
  rintro e w5 ⟨rfl, hk5, hb5⟩
  have HB5 := Lib.hid (bOn6 HB4.out hb5)
  have K5 := Lib.hid (K4.out.keep hb5)
  have HC5 := Lib.hid (HC4.out.keep hb5)
  have HP5 := Lib.hid hk5
  obtain ⟨bb, hbb⟩ : ∃ bb, W4.heap.size = bb := ⟨_, rfl⟩
  rw [hbb] at HP5
  rw [hbb]
  have HBB : Hid (w.heap.size ≤ bb) := Lib.hid (by rw [← hbb]; exact HB4.out.size)
  clear hb5 hk5 hbb HB4 K4 HC4 HK4
  go_wp2_with fail
  obtain ⟨W6, hW6⟩ := named (w5.alloc (.cells #[.slice (some ⟨cb, 0, none⟩) N N, .slice (some ⟨bb, 0, none⟩) N N] 73))
  rw [← hW6]
  have hb6 : Below w5.heap.size w5 W6 := by rw [hW6]; exact below_alloc1 _
  have k6 : Blk W6 w5.heap.size #[.slice (some ⟨cb, 0, none⟩) N N, .slice (some ⟨bb, 0, none⟩) N N] 73 := by rw [hW6]; exact Blk.new _ _ _ _ rfl
  have HT6 : Hid (TreeAt W6 N w5.heap.size cb bb (List.replicate N 1152921504606846976) (List.replicate N (-1))) := Lib.hid ⟨k6, by rw [numC_rep]; exact HC5.out.keep hb6, by rw [numC_rep]; exact HP5.out.keep hb6, by simp, by simp⟩
  have HB6 := Lib.hid (bOn6 HB5.out hb6)
  have K6 := Lib.hid (K5.out.keep hb6)
  obtain ⟨tb, htb⟩ : ∃ tb, w5.heap.size = tb := ⟨_, rfl⟩
  have hlt : w.heap.size < tb := by rw [← htb]; exact K5.out.lt
  rw [htb] at HT6
  rw [htb]
  have HTB := Lib.hid hlt
  clear hb6 k6 htb hlt HB5 K5 HC5 HP5 hW6
  refine (Hk.new w W6 HB6.out.size (bs := [w.heap.size, tb, cb, bb]) (fun b hb => by
    simp at hb
    rcases hb with rfl | rfl | rfl | rfl
    · exact K6.out.lt
    · exact HT6.out.t.lt
    · exact HT6.out.c.lt
    · exact HT6.out.b.lt) hsh).mono ?_
  rintro e w7 ⟨hb, rfl, hh, hb7⟩
  have HG7 : Hid (Gs w w7 N w.heap.size tb cb bb hb [] (List.replicate N 1152921504606846976) (List.replicate N (-1)) (fun _ => none)) := Lib.hid ⟨HT6.out.old hb7, K6.out.keep hb7, hh, bOn6 HB6.out hb7, fun q hq => (by cases hq), HCB.out, HBB.out, HTB.out⟩
  clear hh hb7 HB6 K6 HT6
  go_wp2_with fail
  have HPB : Hid (putB N (fun _ => none) s 0 = false) := Lib.hid (putB_out hs)
  have HPM : Hid (putM N (fun _ => none) s 0 = fun _ => none) := Lib.hid (putM_false HPB.out)
  refine (HG7.out.put s 0 s0 s1 (by omega) (by omega) HPB.out HPM.out).mono ?_
  rintro e w8 ⟨rfl, g8, -⟩
  have HG8 := Lib.hid g8
  have hl0 : lst (fun _ => none) N = none := by
    rcases lst_spec (fun _ => none) N with ⟨h, -⟩ | ⟨x, -, h⟩
    · exact h
    · have := h.2.1
      cases this
  have HX0 : Hid (popV N (fun _ => none) = (0, 0, false)) := Lib.hid (by unfold popV; rw [hl0])
  clear g8 HPB HPM HG7 hl0
  go_wp2_with fail
  refine (HG8.out.pop HX0.out rfl).mono ?_
  rintro e wo ⟨rfl, g9⟩
  have HGS := Lib.hid g9
  unfold popT
  clear g9 HG8 HX0
  obtain ⟨x0, x1, f0, f1⟩ := HGS.out.t.t.o2
  obtain ⟨y0, y1, g0, g1⟩ := HGS.out.r.o2
  have hlt0 := HGS.out.r.lt
  have hlt1 := HGS.out.t.t.lt
  have hne : w.heap.size ≠ tb := by have := HGS.out.ord; omega
  go_wp2_with fail
  refine wp_loop_rounds 1 ?_
  rw [rounds_succ]
  go_wp2_with fail
  obtain ⟨we, hwe⟩ := named ((wo.setCell ⟨w.heap.size, 0, none⟩ (.slice (some ⟨cb, 0, none⟩) N N)).setCell ⟨w.heap.size, 1, none⟩ (.slice (some ⟨bb, 0, none⟩) N N))
  rw [← hwe]
  have kr : Blk we w.heap.size #[.slice (some ⟨cb, 0, none⟩) N N, .slice (some ⟨bb, 0, none⟩) N N] 73 := by
    rw [hwe]
    have := (HGS.out.r.set 0 (.slice (some ⟨cb, 0, none⟩) N N)).set 1 (.slice (some ⟨bb, 0, none⟩) N N)
    simpa using this
  have hkp : Keep (fun b => b ≠ w.heap.size) wo we := by rw [hwe]; exact ((Keep.refl _ _).setCell (fun h => h rfl) _ _).setCell (fun h => h rfl) _ _
  have hP : GrowPost w N (fun C _ => C = List.replicate N 1152921504606846976) (.returned (.agg #[.slice (some ⟨cb, 0, none⟩) N N, .slice (some ⟨bb, 0, none⟩) N N])) we :=
    ⟨cb, bb, _, _, rfl, hkp.blk HGS.out.t.c (blk_apart HGS.out.t.c HGS.out.r (by decide)), hkp.blk HGS.out.t.b (blk_apart HGS.out.t.b HGS.out.r (by decide)), HGS.out.c0, HGS.out.b0, HGS.out.t.cl, HGS.out.t.bl, rfl, HGS.out.b.trans (hkp.below (fun b hb e => by omega) HGS.out.b.size)⟩
  obtain ⟨r0, r1, -, -⟩ := kr.o2
  exact bodyPost_ret (v := .agg #[.slice (some ⟨cb, 0, none⟩) N N, .slice (some ⟨bb, 0, none⟩) N N]) (by simp [results, Tryz.results39, go_sem, r0, r1]) rfl hP

end Go.Proofs.YtgihaakgadmidaaGreat
