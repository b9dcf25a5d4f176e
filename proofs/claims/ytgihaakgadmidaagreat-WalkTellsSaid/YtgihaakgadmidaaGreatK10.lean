/-
  The document's row of Infs: never.
-/
import Derived.Test.YtgihaakgadmidaaGreatK9
import Derived.Test.YtgihaakgadmidaaGreatK3
namespace Go.Proofs.YtgihaakgadmidaaGreat
open HP Go.RowKit

/-- The first k are Inf. -/
def nevL (k N : Nat) : List Int := List.replicate k 1152921504606846976 ++ List.replicate (N - k) 0
theorem nevL_len {k N : Nat} (h : k ≤ N) : (nevL k N).length = N := by unfold nevL; simp; omega
theorem nevL_put {k N : Nat} (h : k < N) : (nevL k N).set k 1152921504606846976 = nevL (k + 1) N := by
  unfold nevL
  obtain ⟨m, hm⟩ : ∃ m, N - k = m + 1 := ⟨N - k - 1, by omega⟩
  rw [hm, show N - (k + 1) = m from by omega, List.replicate_succ, List.set_append_right _ _ (by simp)]
  simp [List.replicate_succ']
theorem nevL_all (N : Nat) : nevL N N = List.replicate N 1152921504606846976 := by unfold nevL; simp
theorem nevL_zero (N : Nat) : nevL 0 N = List.replicate N 0 := by unfold nevL; simp
/-- A row of costs of the call's own, in a block of its own. -/
def RowC (w : World) (b : Nat) (d : List Int) : Prop := Blk w b (d.map (Value.int .i64)).toArray 2
theorem RowC.put {w : World} {b : Nat} {d : List Int} (h : RowC w b d) (k : Nat) (c : Int) : RowC (w.setCell ⟨b, k, none⟩ (.int .i64 c)) b (d.set k c) := by
  unfold RowC
  have := Blk.set h k (.int .i64 c)
  rw [List.setIfInBounds_toArray, ← List.map_set] at this
  exact this
theorem RowC.at {w : World} {b : Nat} {d : List Int} (h : RowC w b d) {k : Nat} (hk : k < d.length) : w.cell? ⟨b, k, none⟩ = some (.int .i64 (ctL d k)) := by
  refine Blk.cell h k ?_
  rw [List.getElem?_toArray, List.getElem?_map, List.getElem?_eq_getElem hk]
  simp [ctL, hk]

set_option maxHeartbeats 2000000 in
set_option maxRecDepth 100000 in
theorem rnever (N : Nat) (hN : N ≤ 16384) (w : World) : Calls Tryz.prog 27 #[.int .i64 N] w fun e w' => e = .returned (.slice (some ⟨w.heap.size, 0, none⟩) N N) ∧ RowC w' w.heap.size (List.replicate N 1152921504606846976) ∧ Below w.heap.size w w' := by
  have hmk := make1 w 36 2 (.int .i64 0) 8 rfl Tryz.underlying36 infoI64z N hN (by decide)
  go_enter Tryz.func27, Tryz.ntmps27
  go_wp2_with fail
  clear hmk
  go_loopw [4] (fun i wr => ∃ k : Nat, k ≤ N ∧ i = .int .i64 k ∧ Hid (RowC wr w.heap.size (nevL k N)) ∧ Hid (Below w.heap.size w wr)) (fun i _ => N - (intOf i).toNat)
  case atStart =>
    refine ⟨0, Nat.zero_le _, rfl, Lib.hid ?_, Lib.hid ?_⟩
    · unfold RowC
      rw [nevL_zero, List.map_replicate]
      first
        | exact Blk.new _ _ _ _ rfl
        | (rw [List.toArray_replicate]; exact Blk.new _ _ _ _ rfl)
    · exact below_new _
  case round =>
    obtain ⟨k, hk, rfl, HR, HB⟩ := hrel
    by_cases hlt : k < N
    · have hli : (k : Int) < (N : Int) := by omega
      have c := HR.out.at (k := k) (by rw [nevL_len hk]; exact hlt)
      have f := Blk.free HR.out k
      have l := Blk.lt HR.out
      have HR2 : Hid (RowC (wr.setCell ⟨w.heap.size, k, none⟩ (.int .i64 1152921504606846976)) w.heap.size (nevL (k + 1) N)) := Lib.hid (by rw [← nevL_put hlt]; exact HR.out.put k _)
      have HB2 : Hid (Below w.heap.size w (wr.setCell ⟨w.heap.size, k, none⟩ (.int .i64 1152921504606846976))) := Lib.hid (HB.out.setCell (Nat.le_refl _) _)
      go_wp2_with fail
      go_roundw
      case rel => exact ⟨k + 1, hlt, by go_num, HR2, HB2⟩
      case measure => simp [intOf]; omega
    · obtain rfl : k = N := by omega
      have hli : ¬ (k : Int) < (k : Int) := by omega
      have HR2 : Hid (RowC wr w.heap.size (List.replicate k 1152921504606846976)) := Lib.hid (by rw [← nevL_all]; exact HR.out)
      go_wp2_with fail
      go_ret
      exact ⟨rfl, HR2.out, HB.out⟩

end Go.Proofs.YtgihaakgadmidaaGreat

/-
  The document's least walks from an arc: what is read of the roads, and the cases in which there are none.
-/
namespace Go.Proofs.YtgihaakgadmidaaGreat
open HP Go.RowKit

/-- A row of a row of rows. -/
theorem RRow.at {e e1 : TypeId} {w : World} {base : Nat} {q : Option Addr} {k c : Nat} {L : Nat → List Int} (h : RRow e e1 w base (.slice q k c) k L) {i : Nat} (hi : i < k) (hl : (L i).length ≤ 100000) :
    ∃ g q' c', q = some ⟨g, 0, none⟩ ∧ w.cell? ⟨g, i, none⟩ = some (.slice q' (L i).length c') ∧ I64s w (.slice q' (L i).length c') (L i) := by
  obtain ⟨us, h1, h2, h3⟩ := h.rows
  have hx : us[i]? = some us[i] := List.getElem?_eq_getElem (by omega)
  have ho := h3 i _ hx
  obtain ⟨q', c', e2⟩ := own_shape ho
  rcases h2.2 with ⟨_, e0⟩ | ⟨g, cap, cur, e3, hg, _⟩
  · omega
  · injection e3 with e3 e4 e5
    subst e3
    refine ⟨g, q', c', rfl, ?_, ?_⟩
    · rw [← e2]; exact (h2.cellAt i (by omega)).trans hx
    · rw [← e2]; exact ints_of_owns ho (by omega)
/-- No walk from an arc that is none, or that is closed. -/
theorem FromP.none {n : NetD} {s : Int} (h : ∀ k : Nat, s = k → k < n.a.length → wN n k = 1152921504606846976) : FromP n s (List.replicate n.a.length 1152921504606846976) := ⟨by simp, Or.inr ⟨h, rfl⟩⟩
theorem ToP.none {n : NetD} {s : Int} (h : ∀ k : Nat, s = k → k < n.a.length → wN n k = 1152921504606846976) : ToP n s (List.replicate n.a.length 1152921504606846976) := ⟨by simp, Or.inr ⟨h, rfl⟩⟩

set_option maxHeartbeats 2000000 in
set_option maxRecDepth 100000 in
theorem rfrom_out {w : World} {base : Nat} {rv : Value} {n : NetD} {s : Int} (h : RoadsV w base rv n) (hn : GrN n) (ht : n.there s = false) : Calls Tryz.prog 9 #[rv, .int .i64 s] w fun e w' => ∃ b, e = .returned (.slice (some ⟨b, 0, none⟩) n.a.length n.a.length) ∧ w.heap.size ≤ b ∧ RowC w' b (List.replicate n.a.length 1152921504606846976) ∧ Below w.heap.size w w' := by
  obtain ⟨vq, aq, tq, vc, ac, tc, u3, u4, rfl, hs, R3, R4⟩ := h
  have hsa := hn.few.a
  have HT := Lib.hid ht
  clear ht hs R3 R4 hn
  go_enter Tryz.func9, Tryz.ntmps9
  go_wp2_with fail
  obtain ⟨W0, hW0⟩ := named (w.alloc (.cells #[.slice vq n.v.length vc, .slice aq n.a.length ac, .slice tq n.t.length tc, u3, u4] 34))
  rw [← hW0]
  have B0 : Hid (Below w.heap.size w W0) := by rw [hW0]; exact Lib.hid (below_alloc1 _)
  have K0 : Hid (Blk W0 w.heap.size #[.slice vq n.v.length vc, .slice aq n.a.length ac, .slice tq n.t.length tc, u3, u4] 34) := by rw [hW0]; exact Lib.hid (Blk.new _ _ _ _ rfl)
  clear hW0
  refine (rnever n.a.length (by omega) _).mono ?_
  rintro e w1 ⟨rfl, hr, hb⟩
  have HR := Lib.hid hr
  have HB := Lib.hid hb
  have K1 := Lib.hid (K0.out.keep hb)
  obtain ⟨c0, c1, c2, -⟩ := K1.out.o5
  clear hr hb K0
  go_wp2_with fail
  clear c0 c1 c2
  refine (rthere_any n vq aq tq vc ac tc s _).mono ?_
  rintro e w2 ⟨rfl, hb2⟩
  rw [HT.out]
  have hz := B0.out.size
  have HR2 := Lib.hid (HR.out.keep hb2)
  have HB2 : Hid (Below w.heap.size w w2) := Lib.hid (bOn6 (bOn6 B0.out HB.out) hb2)
  clear hb2
  go_wp2_with fail
  go_ret
  exact ⟨_, rfl, hz, HR2.out, HB2.out⟩

end Go.Proofs.YtgihaakgadmidaaGreat

/-
  The document's least walks from an arc: the rounds.
-/
namespace Go.Proofs.YtgihaakgadmidaaGreat
open HP Go.RowKit

theorem RowC.pot {w : World} {b : Nat} {d : List Int} {N : Nat} (h : RowC w b d) (hl : d.length = N) : potW w b N = potL d := by
  subst hl
  unfold potW
  congr 1
  refine List.ext_getElem (by simp) (fun i h1 h2 => ?_)
  rw [List.getElem_map, List.getElem_range, h.at h2]
  simp [cellI, ctL, h2]
theorem RowC.keep {w w' : World} {b : Nat} {d : List Int} (h : RowC w b d) (hb : Below w.heap.size w w') : RowC w' b d := Blk.keep hb h
theorem ClF.inf {n : NetD} {s a k : Nat} {d : List Int} (h : RfS n s d) (ha : ¬ ctL d a < 1152921504606846976) (hl : a < n.a.length) : ClF n d a k := fun b hb => by
  have h1 := h.hi a hl
  have e : ctL d a = 1152921504606846976 := by omega
  rw [e, addC_infL]
  obtain ⟨z, hz, ez, -⟩ := nxt_mem.1 (List.mem_of_mem_take hb)
  obtain rfl : b = z := by omega
  exact h.hi b hz
theorem RfS.pot {n : NetD} {s b : Nat} {d : List Int} {c : Int} (h : RfS n s d) (hb : b < n.a.length) (h0 : 0 ≤ c) (hlt : c < ctL d b) : potL (d.set b c) < potL d := by
  have hl : b < d.length := by rw [h.len]; exact hb
  exact potL_set d b hl c h0 (by simpa [ctL, hl] using hlt)

/-- Whether a further round is wanted. -/
def mOf : Value → Nat
  | .bool true => 1
  | _ => 0
/-- A round's rows, as far as they have come: nothing has become less, or the row's sum has. -/
structure RfW (n : NetD) (s : Nat) (W0 : World) (d0 : List Int) (mb : Bool) (Cl : Prop) (wr : World) : Prop where
  row : ∃ d, RfS n s d ∧ RowC wr W0.heap.size d ∧ (mb = true → potL d < potL d0) ∧ (mb = false → d = d0 ∧ Cl)
  below : Below W0.heap.size W0 wr

set_option maxHeartbeats 8000000 in
set_option maxRecDepth 100000 in
theorem rfrom_main {w : World} {base : Nat} {rv : Value} {n : NetD} {s : Nat} (h : RoadsV w base rv n) (hn : GrN n) (hs : s < n.a.length) (ho : wN n s ≠ 1152921504606846976) : Calls Tryz.prog 9 #[rv, .int .i64 s] w fun e w' => ∃ b d, e = .returned (.slice (some ⟨b, 0, none⟩) n.a.length n.a.length) ∧ w.heap.size ≤ b ∧ RowC w' b d ∧ FromP n s d ∧ Below w.heap.size w w' := by
  obtain ⟨vq, aq, tq, vc, ac, tc, u3, u4, rfl, hsn, R3, R4⟩ := h
  obtain ⟨q3, k3, rfl⟩ := R3.shape
  obtain ⟨q4, k4, rfl⟩ := R4.shape
  have hsa := hn.few.a
  have HN := Lib.hid hn
  obtain ⟨ab, ao, rfl, -, -, x2⟩ := hsn.a.at hs
  have ews : wN n s = n.a[s].2.2 := by unfold wN; rw [NetGood.arc_at s hs]
  obtain ⟨X, hX⟩ : ∃ X, n.a[s].2.2 = X := ⟨_, rfl⟩
  rw [hX] at x2 ews
  have hxi : (X == 1152921504606846976) = false := by rw [ews] at ho; simpa using ho
  have hsi : (s : Int) < (n.a.length : Int) := by omega
  have HO := Lib.hid ho
  have HS := Lib.hid hsn
  have HR3 := Lib.hid R3
  have HR4 := Lib.hid R4
  have X2 := Lib.hid x2
  clear hn hsn R3 R4 hX x2 ews ho
  go_enter Tryz.func9, Tryz.ntmps9
  go_wp2_with fail
  obtain ⟨W0, hW0⟩ := named (w.alloc (.cells #[.slice vq n.v.length vc, .slice (some ⟨ab, ao, none⟩) n.a.length ac, .slice tq n.t.length tc, .slice q3 n.a.length k3, .slice q4 n.a.length k4] 34))
  rw [← hW0]
  have B0 : Hid (Below w.heap.size w W0) := by rw [hW0]; exact Lib.hid (below_alloc1 _)
  have K0 : Hid (Blk W0 w.heap.size #[.slice vq n.v.length vc, .slice (some ⟨ab, ao, none⟩) n.a.length ac, .slice tq n.t.length tc, .slice q3 n.a.length k3, .slice q4 n.a.length k4] 34) := by rw [hW0]; exact Lib.hid (Blk.new _ _ _ _ rfl)
  clear hW0
  have HS0 := Lib.hid (HS.out.below B0.out)
  have HA3 := Lib.hid (HR3.out.below B0.out)
  have HA4 := Lib.hid (HR4.out.below B0.out)
  have X20 := Lib.hid (keep B0.out X2.out)
  clear HS HR3 HR4 X2
  refine (rnever n.a.length (by omega) _).mono ?_
  rintro e w1 ⟨rfl, hr, hb⟩
  have HR := Lib.hid hr
  have HB := Lib.hid hb
  have K1 := Lib.hid (K0.out.keep hb)
  obtain ⟨c0, c1, c2, -⟩ := K1.out.o5
  clear hr hb
  go_wp2_with fail
  clear c0 c1 c2
  refine (rthere_any n vq (some ⟨ab, ao, none⟩) tq vc ac tc s _).mono ?_
  rintro e w2 ⟨rfl, hb2⟩
  rw [there_at (n := n) hs]
  have HR2 := Lib.hid (HR.out.keep hb2)
  have HB2 : Hid (Below W0.heap.size W0 w2) := Lib.hid (bOn6 HB.out hb2)
  have K2 := Lib.hid (K0.out.keep HB2.out)
  obtain ⟨c0, c1, c2, -⟩ := K2.out.o5
  have x2 := keep HB2.out X20.out
  have lab := World.block_lt_of_cell? w2 _ x2
  have r2 := HR2.out.at (k := s) (by simpa using hs)
  have f2 := Blk.free HR2.out s
  have l2 := Blk.lt HR2.out
  clear hb2 HR HB K1
  obtain ⟨d0, hd0⟩ : ∃ d, (List.replicate n.a.length (1152921504606846976 : Int)).set s 0 = d := ⟨_, rfl⟩
  have HF0 : Hid (RfS n s d0) := Lib.hid (by rw [← hd0]; exact RfS.start hs HO.out)
  have HRW : Hid (RowC (w2.setCell ⟨W0.heap.size, s, none⟩ (.int .i64 0)) W0.heap.size d0) := Lib.hid (by rw [← hd0]; exact HR2.out.put s 0)
  have HBW : Hid (Below W0.heap.size W0 (w2.setCell ⟨W0.heap.size, s, none⟩ (.int .i64 0))) := Lib.hid (HB2.out.setCell (Nat.le_refl _) _)
  clear hd0
  go_wp2_with fail
  clear c0 c1 c2 x2 lab r2 f2 l2
  obtain ⟨W3, hW3⟩ := named (w2.setCell ⟨W0.heap.size, s, none⟩ (.int .i64 0))
  rw [← hW3] at HRW HBW ⊢
  clear hW3 HR2 HB2 K2 hxi X20 hsi
  have HB9 : Hid (w.heap.size ≤ W0.heap.size) := Lib.hid B0.out.size
  go_loopw [6, 7, 8, 9, 10] (fun m _ _ _ _ wr => ∃ (mb : Bool) (d : List Int), m = .bool mb ∧ Hid (RfS n s d) ∧ Hid (RowC wr W0.heap.size d) ∧ Hid (Below W0.heap.size W0 wr) ∧ Hid (mb = false → ∀ a, a < n.a.length → ClF n d a (nxtL n a).length)) (fun m _ _ _ _ wr => 2 * potW wr W0.heap.size n.a.length + mOf m)
  case atStart => exact ⟨true, d0, rfl, HF0, HRW, HBW, Lib.hid (fun h => by cases h)⟩
  case round =>
    obtain ⟨mb, d, rfl, HF, HRo, HBo, HCl⟩ := hrel
    clear HF0 HRW HBW
    cases mb with
    | false =>
      go_wp2_with fail
      go_ret
      exact ⟨_, rfl, HB9.out, d, HRo.out, HF.out.done hs HO.out (HCl.out (by first | rfl | trivial)), bOn6 B0.out HBo.out⟩
    | true =>
      obtain ⟨WA, rfl⟩ : ∃ W, W = wr := ⟨_, rfl⟩
      have HP : Hid (potW WA W0.heap.size n.a.length = potL d) := Lib.hid (HRo.out.pot HF.out.len)
      clear HCl
      go_wp2_with fail
      go_loopw [6, 7, 8, 9, 10] (fun m av _ _ _ wr => ∃ (a : Nat) (mb : Bool), a ≤ n.a.length ∧ av = .int .i64 a ∧ m = .bool mb ∧ Hid (RfW n s W0 d mb (∀ a', a' < a → ClF n d a' (nxtL n a').length) wr)) (fun _ av _ _ _ _ => n.a.length - (intOf av).toNat)
      case atStart => exact ⟨0, false, Nat.zero_le _, rfl, rfl, Lib.hid ⟨⟨d, HF.out, HRo.out, (fun h => by cases h), (fun _ => ⟨rfl, (fun _ h => by omega)⟩)⟩, HBo.out⟩⟩
      case round =>
        obtain ⟨a, mb, ha, rfl, rfl, RW⟩ := hrel
        by_cases hlt : a < n.a.length
        · have hli : (a : Int) < (n.a.length : Int) := by omega
          go_wp2_with fail
          go_loopw [6, 8, 9, 10] (fun m kv _ _ wr => ∃ (k : Nat) (mb : Bool), k ≤ (nxtL n a).length ∧ kv = .int .i64 k ∧ m = .bool mb ∧ Hid (RfW n s W0 d mb ((∀ a', a' < a → ClF n d a' (nxtL n a').length) ∧ ClF n d a k) wr)) (fun _ kv _ _ _ => (nxtL n a).length - (intOf kv).toNat)
          case atStart =>
            obtain ⟨d1, e1, e2, e3, e4⟩ := RW.out.row
            exact ⟨0, mb, Nat.zero_le _, rfl, rfl, Lib.hid ⟨⟨d1, e1, e2, e3, fun h => ⟨(e4 h).1, (e4 h).2, ClF.zero⟩⟩, RW.out.below⟩⟩
          case round =>
            obtain ⟨k, mb2, hk, rfl, rfl, RV⟩ := hrel
            clear RW
            obtain ⟨d2, g1, g2, g3, g4⟩ := RV.out.row
            have hd2l := g1.len
            have HBv := Lib.hid RV.out.below
            have hnl : (nxtL n a).length ≤ 100000 := by
              unfold nxtL
              refine Nat.le_trans (List.length_filter_le _ _) ?_
              have := outs_short HN.out (n.arc a).2.1
              omega
            have htl : (trnL n a).length = (nxtL n a).length := List.length_map _
            obtain ⟨gg, q5, k5, rfl, y0, y1⟩ := (HA3.out.below HBv.out).at hlt hnl
            obtain ⟨gh, q6, k6, rfl, z0, z1⟩ := (HA4.out.below HBv.out).at hlt (by rw [htl]; exact hnl)
            obtain ⟨c0, c1, c2, c3, c4, -⟩ := (K0.out.keep HBv.out).o5
            have lgg := World.block_lt_of_cell? wr _ y0
            have da := g2.at (k := a) (by omega)
            have lda := World.block_lt_of_cell? wr _ da
            have G1 := Lib.hid g1
            have G2 := Lib.hid g2
            have G3 := Lib.hid g3
            have G4 := Lib.hid g4
            obtain ⟨NK, hNK⟩ : ∃ N, (nxtL n a).length = N := ⟨_, rfl⟩
            have HNK := Lib.hid hNK
            rw [hNK] at y0
            rw [htl, hNK] at z0
            have Y1 := Lib.hid y1
            have Z0 := Lib.hid z0
            have Z1 := Lib.hid z1
            have HTL := Lib.hid htl
            obtain ⟨DA, hDA⟩ : ∃ x, ctL d2 a = x := ⟨_, rfl⟩
            rw [hDA] at da
            have HDA := Lib.hid hDA
            have hkn : k ≤ NK := by omega
            have hn5 : NK ≤ 100000 := by omega
            clear g1 g2 g3 g4 y1 z0 z1 htl hnl hNK hDA hd2l RV
            by_cases hkl : k < NK
            · have hki : (k : Int) < (NK : Int) := by omega
              by_cases hda : DA < 1152921504606846976
              · obtain ⟨z, hz, ez, -, -⟩ := nxt_mem.1 (List.getElem_mem (l := nxtL n a) (n := k) (by rw [HNK.out]; exact hkl))
                obtain ⟨pb, po, rfl, yz⟩ := Y1.out.at (show k < (nxtL n a).length by rw [HNK.out]; exact hkl)
                rw [ez] at yz
                have lpb := World.block_lt_of_cell? wr _ yz
                obtain ⟨rb, rO, rfl, zt⟩ := Z1.out.at (show k < (trnL n a).length by rw [HTL.out, HNK.out]; exact hkl)
                have ezt : (trnL n a)[k]'(by rw [HTL.out, HNK.out]; exact hkl) = n.turn a z := by unfold trnL; rw [List.getElem_map, ez]
                rw [ezt] at zt
                obtain ⟨T, hT⟩ : ∃ T, n.turn a z = T := ⟨_, rfl⟩
                have hTb := turn_bd HN.out.good a z
                rw [hT] at zt hTb
                obtain ⟨ab2, ao2, eab, -, -, xw⟩ := HS0.out.a.at hz
                obtain ⟨rfl, rfl⟩ : ab = ab2 ∧ ao = ao2 := by injection eab with e; injection e with e1 e2; exact ⟨e1, e2⟩
                obtain ⟨WB, hWB⟩ : ∃ x, n.a[z].2.2 = x := ⟨_, rfl⟩
                have hwb : wN n z = WB := by unfold wN; rw [NetGood.arc_at z hz]; exact hWB
                have hwi := (HN.out.inn.2.1 n.a[z] (List.getElem_mem hz)).2.2
                rw [hWB] at xw hwi
                obtain ⟨C, hC⟩ : ∃ C, addC (addC DA T) WB = C := ⟨_, rfl⟩
                have HC := Lib.hid hC
                have HK1 : Hid (k + 1 ≤ (nxtL n a).length) := Lib.hid (by rw [HNK.out]; exact hkl)
                have HCO : Hid (addC (ctL d2 a) (oN n a z) = C) := Lib.hid (by rw [HDA.out]; unfold oN; rw [hT, hwb, ← addC_assoc]; exact hC)
                have hCb := addC_held (addC DA T) WB
                rw [hC] at hCb
                have hSb := addC_held DA T
                have hDlo := G1.out.lo hlt
                rw [HDA.out] at hDlo
                have HTb := Lib.hid (And.intro hTb.1 hTb.2)
                have HWI := Lib.hid (And.intro hwi.1 hwi.2)
                have HSB := Lib.hid hSb
                have HDL := Lib.hid hDlo
                have XW := Lib.hid (keep HBv.out xw)
                have YZ := Lib.hid yz
                have ZT := Lib.hid zt
                have hzi : (z : Int) < (n.a.length : Int) := by omega
                have HEZ := Lib.hid ez
                have KW := Lib.hid (K0.out.keep HBv.out)
                have HDAc := Lib.hid da
                have HTZ := Lib.hid (G2.out.at (k := z) (by rw [G1.out.len]; exact hz))
                clear ez hT ezt zt eab xw hWB hwb hwi hC hSb hTb hDlo yz
                have yz := YZ.out
                go_wp2_with fail
                clear c0 c1 c2 c3 c4 y0 da lda lgg yz lpb
                have hGS : Grows (fun w' => Below wr.heap.size wr w') := Grows.below wr
                refine' wp_growL _ (fun w' => Below wr.heap.size wr w') [[], [], [0, 1], [2], [], [4], [], [5, 6], [7], [], [8, 9], [10], [3, 11], [], [13], [14], [], [15, 16], [17], [18], [12, 19], [20]] (Fact.lit _ :: Fact.lit _ :: Fact.lit _ :: Fact.lit _ :: Fact.lit _ :: Fact.lit _ :: Fact.lit _ :: Fact.lit _ :: Fact.lit _ :: Fact.lit _ :: Fact.lit _ :: Fact.lit _ :: Fact.lit _ :: Fact.lit _ :: Fact.lit _ :: Fact.lit _ :: Fact.lit _ :: Fact.lit _ :: Fact.lit _ :: Fact.lit _ :: Fact.lit _ :: Fact.lit _ :: []) (by kernel_rfl) rfl (by kernel_rfl) (Below.refl _ _).drew ?seqr15
                case' seqr15 => skip
                iterate 12 ((first | (apply grow_skip; (case hf => rfl); (case hw => rfl)) | (apply grow_lit; (case hf => rfl); (case hw => rfl); (case hrun => (intro w' hS H; clear H; (obtain ⟨c0, c1, c2, c3, c4, -⟩ := (KW.out.keep hS).o5); (have x0 := keep hS HDAc.out); (have x1 := keep hS Z0.out); (have x2 := keep hS ZT.out); (have l1 := World.block_lt_of_cell? w' _ x1); (have l2 := World.block_lt_of_cell? w' _ x2); clear hS; go_simp; first | done | exact rfl)))); (case hc => (simp only [Act.put, List.setIfInBounds_toArray, List.set_cons_zero, List.set_cons_succ]; first | done | exact rfl)); (try (case hj => rfl)))
                (refine' grow_call (u := .int .i64 (addC DA T)) rfl Tryz.func29 (by kernel_rfl) rfl hGS rfl ?wt45 ?run45 ?put45 ?next45; (case wt45 => rfl); (case run45 => (intro w' hS H; exact (radd_any DA T w' (by have := HDL.out; omega) (by omega) (by have := HTb.out; omega) (by have := HTb.out; omega)).mono (fun e w2 h => ⟨h.1, h.2 ▸ Below.refl _ _⟩))); (case put45 => (simp only [Act.put, List.setIfInBounds_toArray, List.set_cons_zero, List.set_cons_succ]; first | done | exact rfl)); (case' next45 => skip))
                iterate 7 ((first | (apply grow_skip; (case hf => rfl); (case hw => rfl)) | (apply grow_lit; (case hf => rfl); (case hw => rfl); (case hrun => (intro w' hS H; clear H; (obtain ⟨c0, c1, c2, c3, c4, -⟩ := (KW.out.keep hS).o5); (have x0 := keep hS XW.out); (have l1 := World.block_lt_of_cell? w' _ x0); clear hS; go_simp; first | done | exact rfl)))); (case hc => (simp only [Act.put, List.setIfInBounds_toArray, List.set_cons_zero, List.set_cons_succ]; first | done | exact rfl)); (try (case hj => rfl)))
                (refine' grow_call (u := .int .i64 C) rfl Tryz.func29 (by kernel_rfl) rfl hGS rfl ?wt46 ?run46 ?put46 ?next46; (case wt46 => rfl); (case run46 => (intro w' hS H; exact (radd_any (addC DA T) WB w' (by have := HSB.out; omega) (by have := HSB.out; omega) (by have := HWI.out; omega) (by have := HWI.out; omega)).mono (fun e w2 h => ⟨h.1.trans (by rw [HC.out]), h.2 ▸ Below.refl _ _⟩))); (case put46 => (simp only [Act.put, List.setIfInBounds_toArray, List.set_cons_zero, List.set_cons_succ]; first | done | exact rfl)); (case' next46 => skip))
                iterate 1 ((first | (apply grow_skip; (case hf => rfl); (case hw => rfl)) | (apply grow_lit; (case hf => rfl); (case hw => rfl); (case hrun => (intro w' hS H; clear H; skip; clear hS; go_simp; first | done | exact rfl)))); (case hc => (simp only [Act.put, List.setIfInBounds_toArray, List.set_cons_zero, List.set_cons_succ]; first | done | exact rfl)); (try (case hj => rfl)))
                intro w5 hb5 _
                have HB5 := Lib.hid (bOn6 HBv.out hb5)
                have R5 := Lib.hid (G2.out.keep hb5)
                have dz := keep hb5 HTZ.out
                have ldz := World.block_lt_of_cell? w5 _ dz
                have fz := Blk.free R5.out z
                obtain ⟨DZ, hDZ⟩ : ∃ x, ctL d2 z = x := ⟨_, rfl⟩
                rw [hDZ] at dz
                have HDZ := Lib.hid hDZ
                clear hb5 hGS hDZ XW YZ ZT Z0 Y1 Z1 HDAc HTZ KW
                by_cases hcz : C < DZ
                · have HX : Hid (RfW n s W0 d true ((∀ a', a' < a → ClF n d a' (nxtL n a').length) ∧ ClF n d a (k + 1)) (w5.setCell ⟨W0.heap.size, z, none⟩ (.int .i64 C))) := Lib.hid ⟨⟨d2.set z C, G1.out.relax hlt hz HCO.out (by rw [HDZ.out]; exact hcz), R5.out.put z C, fun _ => by
                    have h1 := G1.out.pot hz hCb.1 (by rw [HDZ.out]; exact hcz)
                    cases mb2 with
                    | true => exact Nat.lt_trans h1 (G3.out rfl)
                    | false => obtain ⟨rfl, -⟩ := G4.out rfl; exact h1, (fun h => by cases h)⟩, HB5.out.setCell (Nat.le_refl _) _⟩
                  clear hCb
                  go_wp2_with fail
                  go_roundw
                  case rel => exact ⟨k + 1, true, HK1.out, by go_num, rfl, HX⟩
                  case measure => have := HK1.out; simp [intOf]; omega
                · have HX : Hid (RfW n s W0 d mb2 ((∀ a', a' < a → ClF n d a' (nxtL n a').length) ∧ ClF n d a (k + 1)) w5) := Lib.hid ⟨⟨d2, G1.out, R5.out, G3.out, fun h => by
                    obtain ⟨rfl, h1, h2⟩ := G4.out h
                    exact ⟨rfl, h1, h2.succ (by rw [HNK.out]; exact hkl) HEZ.out (by rw [HCO.out, HDZ.out]; omega)⟩⟩, HB5.out⟩
                  clear hCb
                  go_wp2_with fail
                  go_roundw
                  case rel => exact ⟨k + 1, mb2, HK1.out, by go_num, rfl, HX⟩
                  case measure => have := HK1.out; simp [intOf]; omega
              · have hnx : ∀ a', a' < a + 1 → (∀ a'', a'' < a → ClF n d2 a'' (nxtL n a'').length) → ClF n d2 a' (nxtL n a').length := fun a' h1 h2 => by
                  by_cases e : a' = a
                  · subst e; exact ClF.inf G1.out (by rw [HDA.out]; exact hda) hlt
                  · exact h2 a' (by omega)
                have HX : Hid (RfW n s W0 d mb2 (∀ a', a' < a + 1 → ClF n d a' (nxtL n a').length) wr) := Lib.hid ⟨⟨d2, G1.out, G2.out, G3.out, fun h => by obtain ⟨rfl, h1, h2⟩ := G4.out h; exact ⟨rfl, fun a' ha' => hnx a' ha' h1⟩⟩, HBv.out⟩
                clear hnx
                go_wp2_with fail
                go_roundw
                case rel => exact ⟨a + 1, mb2, by omega, by go_num, rfl, HX⟩
                case measure => simp [intOf]; omega
            · have hki : ¬ (k : Int) < (NK : Int) := by omega
              have HX : Hid (RfW n s W0 d mb2 (∀ a', a' < a + 1 → ClF n d a' (nxtL n a').length) wr) := Lib.hid ⟨⟨d2, G1.out, G2.out, G3.out, fun h => by
                obtain ⟨rfl, h1, h2⟩ := G4.out h
                refine ⟨rfl, fun a' ha' => ?_⟩
                by_cases e : a' = a
                · subst e
                  rw [show (nxtL n a').length = k from by rw [HNK.out]; omega]
                  exact h2
                · exact h1 a' (by omega)⟩, HBv.out⟩
              clear da lda
              go_wp2_with fail
              go_roundw
              case rel => exact ⟨a + 1, mb2, by omega, by go_num, rfl, HX⟩
              case measure => simp [intOf]; omega
        · obtain rfl : a = n.a.length := by omega
          have hli : ¬ (n.a.length : Int) < (n.a.length : Int) := by omega
          obtain ⟨d1, e1, e2, e3, e4⟩ := RW.out.row
          have E1 := Lib.hid e1
          have E2 := Lib.hid e2
          have E3 := Lib.hid e3
          have E4 := Lib.hid e4
          have HBv := Lib.hid RW.out.below
          clear e1 e2 e3 e4 RW
          go_wp2_with fail
          go_roundw
          case rel => exact ⟨mb, d1, rfl, E1, E2, HBv, Lib.hid (fun h => by obtain ⟨rfl, c⟩ := E4.out h; exact c)⟩
          case measure =>
            have h1 := E2.out.pot E1.out.len
            have h2 := HP.out
            cases mb with
            | true => have h3 := E3.out rfl; simp [mOf, h1, h2]; omega
            | false => obtain ⟨rfl, -⟩ := E4.out rfl; simp [mOf, h1, h2]

end Go.Proofs.YtgihaakgadmidaaGreat

/-
  The document's least walks from an arc: From, whole.
-/
namespace Go.Proofs.YtgihaakgadmidaaGreat
open HP Go.RowKit

set_option maxHeartbeats 4000000 in
set_option maxRecDepth 100000 in
theorem rfrom_shut {w : World} {base : Nat} {rv : Value} {n : NetD} {s : Nat} (h : RoadsV w base rv n) (hn : GrN n) (hs : s < n.a.length) (ho : wN n s = 1152921504606846976) : Calls Tryz.prog 9 #[rv, .int .i64 s] w fun e w' => ∃ b, e = .returned (.slice (some ⟨b, 0, none⟩) n.a.length n.a.length) ∧ w.heap.size ≤ b ∧ RowC w' b (List.replicate n.a.length 1152921504606846976) ∧ Below w.heap.size w w' := by
  obtain ⟨vq, aq, tq, vc, ac, tc, u3, u4, rfl, hsn, R3, R4⟩ := h
  obtain ⟨q3, k3, rfl⟩ := R3.shape
  obtain ⟨q4, k4, rfl⟩ := R4.shape
  have hsa := hn.few.a
  have HN := Lib.hid hn
  obtain ⟨ab, ao, rfl, -, -, x2⟩ := hsn.a.at hs
  have ews : wN n s = n.a[s].2.2 := by unfold wN; rw [NetGood.arc_at s hs]
  obtain ⟨X, hX⟩ : ∃ X, n.a[s].2.2 = X := ⟨_, rfl⟩
  rw [hX] at x2 ews
  obtain rfl : X = 1152921504606846976 := by rw [← ews]; exact ho
  have hsi : (s : Int) < (n.a.length : Int) := by omega
  have HS := Lib.hid hsn
  have HR3 := Lib.hid R3
  have HR4 := Lib.hid R4
  have X2 := Lib.hid x2
  clear hn hsn R3 R4 hX x2 ews ho
  go_enter Tryz.func9, Tryz.ntmps9
  go_wp2_with fail
  obtain ⟨W0, hW0⟩ := named (w.alloc (.cells #[.slice vq n.v.length vc, .slice (some ⟨ab, ao, none⟩) n.a.length ac, .slice tq n.t.length tc, .slice q3 n.a.length k3, .slice q4 n.a.length k4] 34))
  rw [← hW0]
  have B0 : Hid (Below w.heap.size w W0) := by rw [hW0]; exact Lib.hid (below_alloc1 _)
  have K0 : Hid (Blk W0 w.heap.size #[.slice vq n.v.length vc, .slice (some ⟨ab, ao, none⟩) n.a.length ac, .slice tq n.t.length tc, .slice q3 n.a.length k3, .slice q4 n.a.length k4] 34) := by rw [hW0]; exact Lib.hid (Blk.new _ _ _ _ rfl)
  clear hW0
  have HS0 := Lib.hid (HS.out.below B0.out)
  have HA3 := Lib.hid (HR3.out.below B0.out)
  have HA4 := Lib.hid (HR4.out.below B0.out)
  have X20 := Lib.hid (keep B0.out X2.out)
  clear HS HR3 HR4 X2
  refine (rnever n.a.length (by omega) _).mono ?_
  rintro e w1 ⟨rfl, hr, hb⟩
  have HR := Lib.hid hr
  have HB := Lib.hid hb
  have K1 := Lib.hid (K0.out.keep hb)
  obtain ⟨c0, c1, c2, -⟩ := K1.out.o5
  clear hr hb
  go_wp2_with fail
  clear c0 c1 c2
  refine (rthere_any n vq (some ⟨ab, ao, none⟩) tq vc ac tc s _).mono ?_
  rintro e w2 ⟨rfl, hb2⟩
  rw [there_at (n := n) hs]
  have HR2 := Lib.hid (HR.out.keep hb2)
  have HB2 : Hid (Below W0.heap.size W0 w2) := Lib.hid (bOn6 HB.out hb2)
  have K2 := Lib.hid (K0.out.keep HB2.out)
  obtain ⟨c0, c1, c2, -⟩ := K2.out.o5
  have x2 := keep HB2.out X20.out
  have lab := World.block_lt_of_cell? w2 _ x2
  have hz := B0.out.size
  have HBF : Hid (Below w.heap.size w w2) := Lib.hid (bOn6 B0.out HB2.out)
  clear hb2 HR HB K1
  go_wp2_with fail
  go_ret
  exact ⟨_, rfl, hz, HR2.out, HBF.out⟩

/-- What From tells: a row of the call's own. -/
theorem rfrom_is {w : World} {base : Nat} {rv : Value} {n : NetD} {s : Int} (h : RoadsV w base rv n) (hn : GrN n) : Calls Tryz.prog 9 #[rv, .int .i64 s] w fun e w' => ∃ b d, e = .returned (.slice (some ⟨b, 0, none⟩) n.a.length n.a.length) ∧ w.heap.size ≤ b ∧ RowC w' b d ∧ FromP n s d ∧ Below w.heap.size w w' := by
  cases ht : n.there s with
  | false =>
    refine (rfrom_out h hn ht).mono ?_
    rintro e w' ⟨b, h1, h2, h3, h4⟩
    refine ⟨b, _, h1, h2, h3, FromP.none (fun k e hk => ?_), h4⟩
    subst e
    rw [there_at hk] at ht
    cases ht
  | true =>
    obtain ⟨k, rfl, hk⟩ := there_of ht
    by_cases ho : wN n k = 1152921504606846976
    · refine (rfrom_shut h hn hk ho).mono ?_
      rintro e w' ⟨b, h1, h2, h3, h4⟩
      refine ⟨b, _, h1, h2, h3, FromP.none (fun j e hj => ?_), h4⟩
      obtain rfl : k = j := by omega
      exact ho
    · exact rfrom_main h hn hk ho

end Go.Proofs.YtgihaakgadmidaaGreat

/-
  The document's least walks to an arc: To.
-/
namespace Go.Proofs.YtgihaakgadmidaaGreat
open HP Go.RowKit

set_option maxHeartbeats 2000000 in
set_option maxRecDepth 100000 in
theorem rto_out {w : World} {base : Nat} {rv : Value} {n : NetD} {s : Int} (h : RoadsV w base rv n) (hn : GrN n) (ht : n.there s = false) : Calls Tryz.prog 14 #[rv, .int .i64 s] w fun e w' => ∃ b, e = .returned (.slice (some ⟨b, 0, none⟩) n.a.length n.a.length) ∧ w.heap.size ≤ b ∧ RowC w' b (List.replicate n.a.length 1152921504606846976) ∧ Below w.heap.size w w' := by
  obtain ⟨vq, aq, tq, vc, ac, tc, u3, u4, rfl, hs, R3, R4⟩ := h
  have hsa := hn.few.a
  have HT := Lib.hid ht
  clear ht hs R3 R4 hn
  go_enter Tryz.func14, Tryz.ntmps14
  go_wp2_with fail
  obtain ⟨W0, hW0⟩ := named (w.alloc (.cells #[.slice vq n.v.length vc, .slice aq n.a.length ac, .slice tq n.t.length tc, u3, u4] 34))
  rw [← hW0]
  have B0 : Hid (Below w.heap.size w W0) := by rw [hW0]; exact Lib.hid (below_alloc1 _)
  have K0 : Hid (Blk W0 w.heap.size #[.slice vq n.v.length vc, .slice aq n.a.length ac, .slice tq n.t.length tc, u3, u4] 34) := by rw [hW0]; exact Lib.hid (Blk.new _ _ _ _ rfl)
  clear hW0
  refine (rnever n.a.length (by omega) _).mono ?_
  rintro e w1 ⟨rfl, hr, hb⟩
  have HR := Lib.hid hr
  have HB := Lib.hid hb
  have K1 := Lib.hid (K0.out.keep hb)
  obtain ⟨c0, c1, c2, -⟩ := K1.out.o5
  clear hr hb K0
  go_wp2_with fail
  clear c0 c1 c2
  refine (rthere_any n vq aq tq vc ac tc s _).mono ?_
  rintro e w2 ⟨rfl, hb2⟩
  rw [HT.out]
  have hz := B0.out.size
  have HR2 := Lib.hid (HR.out.keep hb2)
  have HB2 : Hid (Below w.heap.size w w2) := Lib.hid (bOn6 (bOn6 B0.out HB.out) hb2)
  clear hb2
  go_wp2_with fail
  go_ret
  exact ⟨_, rfl, hz, HR2.out, HB2.out⟩

theorem RtS.pot {n : NetD} {s b : Nat} {d : List Int} {c : Int} (h : RtS n s d) (hb : b < n.a.length) (h0 : 0 ≤ c) (hlt : c < ctL d b) : potL (d.set b c) < potL d := by
  have hl : b < d.length := by rw [h.len]; exact hb
  exact potL_set d b hl c h0 (by simpa [ctL, hl] using hlt)

/-- A round's rows, as far as they have come: nothing has become less, or the row's sum has. -/
structure RtW (n : NetD) (s : Nat) (W0 : World) (d0 : List Int) (mb : Bool) (Cl : Prop) (wr : World) : Prop where
  row : ∃ d, RtS n s d ∧ RowC wr W0.heap.size d ∧ (mb = true → potL d < potL d0) ∧ (mb = false → d = d0 ∧ Cl)
  below : Below W0.heap.size W0 wr

set_option maxHeartbeats 8000000 in
set_option maxRecDepth 100000 in
theorem rto_main {w : World} {base : Nat} {rv : Value} {n : NetD} {s : Nat} (h : RoadsV w base rv n) (hn : GrN n) (hs : s < n.a.length) (ho : wN n s ≠ 1152921504606846976) : Calls Tryz.prog 14 #[rv, .int .i64 s] w fun e w' => ∃ b d, e = .returned (.slice (some ⟨b, 0, none⟩) n.a.length n.a.length) ∧ w.heap.size ≤ b ∧ RowC w' b d ∧ ToP n s d ∧ Below w.heap.size w w' := by
  obtain ⟨vq, aq, tq, vc, ac, tc, u3, u4, rfl, hsn, R3, R4⟩ := h
  obtain ⟨q3, k3, rfl⟩ := R3.shape
  obtain ⟨q4, k4, rfl⟩ := R4.shape
  have hsa := hn.few.a
  have HN := Lib.hid hn
  obtain ⟨ab, ao, rfl, -, -, x2⟩ := hsn.a.at hs
  have ews : wN n s = n.a[s].2.2 := by unfold wN; rw [NetGood.arc_at s hs]
  obtain ⟨X, hX⟩ : ∃ X, n.a[s].2.2 = X := ⟨_, rfl⟩
  rw [hX] at x2 ews
  have hxi : (X == 1152921504606846976) = false := by rw [ews] at ho; simpa using ho
  have hsi : (s : Int) < (n.a.length : Int) := by omega
  have HO := Lib.hid ho
  have HS := Lib.hid hsn
  have HR3 := Lib.hid R3
  have HR4 := Lib.hid R4
  have X2 := Lib.hid x2
  clear hn hsn R3 R4 hX x2 ews ho
  go_enter Tryz.func14, Tryz.ntmps14
  go_wp2_with fail
  obtain ⟨W0, hW0⟩ := named (w.alloc (.cells #[.slice vq n.v.length vc, .slice (some ⟨ab, ao, none⟩) n.a.length ac, .slice tq n.t.length tc, .slice q3 n.a.length k3, .slice q4 n.a.length k4] 34))
  rw [← hW0]
  have B0 : Hid (Below w.heap.size w W0) := by rw [hW0]; exact Lib.hid (below_alloc1 _)
  have K0 : Hid (Blk W0 w.heap.size #[.slice vq n.v.length vc, .slice (some ⟨ab, ao, none⟩) n.a.length ac, .slice tq n.t.length tc, .slice q3 n.a.length k3, .slice q4 n.a.length k4] 34) := by rw [hW0]; exact Lib.hid (Blk.new _ _ _ _ rfl)
  clear hW0
  have HS0 := Lib.hid (HS.out.below B0.out)
  have HA3 := Lib.hid (HR3.out.below B0.out)
  have HA4 := Lib.hid (HR4.out.below B0.out)
  have X20 := Lib.hid (keep B0.out X2.out)
  clear HS HR3 HR4 X2
  refine (rnever n.a.length (by omega) _).mono ?_
  rintro e w1 ⟨rfl, hr, hb⟩
  have HR := Lib.hid hr
  have HB := Lib.hid hb
  have K1 := Lib.hid (K0.out.keep hb)
  obtain ⟨c0, c1, c2, -⟩ := K1.out.o5
  clear hr hb
  go_wp2_with fail
  clear c0 c1 c2
  refine (rthere_any n vq (some ⟨ab, ao, none⟩) tq vc ac tc s _).mono ?_
  rintro e w2 ⟨rfl, hb2⟩
  rw [there_at (n := n) hs]
  have HR2 := Lib.hid (HR.out.keep hb2)
  have HB2 : Hid (Below W0.heap.size W0 w2) := Lib.hid (bOn6 HB.out hb2)
  have K2 := Lib.hid (K0.out.keep HB2.out)
  obtain ⟨c0, c1, c2, -⟩ := K2.out.o5
  have x2 := keep HB2.out X20.out
  have lab := World.block_lt_of_cell? w2 _ x2
  have r2 := HR2.out.at (k := s) (by simpa using hs)
  have f2 := Blk.free HR2.out s
  have l2 := Blk.lt HR2.out
  clear hb2 HR HB K1
  obtain ⟨d0, hd0⟩ : ∃ d, (List.replicate n.a.length (1152921504606846976 : Int)).set s 0 = d := ⟨_, rfl⟩
  have HF0 : Hid (RtS n s d0) := Lib.hid (by rw [← hd0]; exact RtS.start hs)
  have HRW : Hid (RowC (w2.setCell ⟨W0.heap.size, s, none⟩ (.int .i64 0)) W0.heap.size d0) := Lib.hid (by rw [← hd0]; exact HR2.out.put s 0)
  have HBW : Hid (Below W0.heap.size W0 (w2.setCell ⟨W0.heap.size, s, none⟩ (.int .i64 0))) := Lib.hid (HB2.out.setCell (Nat.le_refl _) _)
  clear hd0
  go_wp2_with fail
  clear c0 c1 c2 x2 lab r2 f2 l2
  obtain ⟨W3, hW3⟩ := named (w2.setCell ⟨W0.heap.size, s, none⟩ (.int .i64 0))
  rw [← hW3] at HRW HBW ⊢
  clear hW3 HR2 HB2 K2 hxi X20 hsi
  have HB9 : Hid (w.heap.size ≤ W0.heap.size) := Lib.hid B0.out.size
  go_loopw [6, 7, 8, 9, 10] (fun m _ _ _ _ wr => ∃ (mb : Bool) (d : List Int), m = .bool mb ∧ Hid (RtS n s d) ∧ Hid (RowC wr W0.heap.size d) ∧ Hid (Below W0.heap.size W0 wr) ∧ Hid (mb = false → ∀ a, a < n.a.length → wN n a ≠ 1152921504606846976 → ClT n d a (nxtL n a).length)) (fun m _ _ _ _ wr => 2 * potW wr W0.heap.size n.a.length + mOf m)
  case atStart => exact ⟨true, d0, rfl, HF0, HRW, HBW, Lib.hid (fun h => by cases h)⟩
  case round =>
    obtain ⟨mb, d, rfl, HF, HRo, HBo, HCl⟩ := hrel
    clear HF0 HRW HBW
    cases mb with
    | false =>
      go_wp2_with fail
      go_ret
      exact ⟨_, rfl, HB9.out, d, HRo.out, HF.out.done hs HO.out (HCl.out (by first | rfl | trivial)), bOn6 B0.out HBo.out⟩
    | true =>
      obtain ⟨WA, rfl⟩ : ∃ W, W = wr := ⟨_, rfl⟩
      have HP : Hid (potW WA W0.heap.size n.a.length = potL d) := Lib.hid (HRo.out.pot HF.out.len)
      clear HCl
      go_wp2_with fail
      go_loopw [6, 7, 8, 9, 10] (fun m av _ _ _ wr => ∃ (a : Nat) (mb : Bool), a ≤ n.a.length ∧ av = .int .i64 a ∧ m = .bool mb ∧ Hid (RtW n s W0 d mb (∀ a', a' < a → (wN n a' ≠ 1152921504606846976 → ClT n d a' (nxtL n a').length)) wr)) (fun _ av _ _ _ _ => n.a.length - (intOf av).toNat)
      case atStart => exact ⟨0, false, Nat.zero_le _, rfl, rfl, Lib.hid ⟨⟨d, HF.out, HRo.out, (fun h => by cases h), (fun _ => ⟨rfl, (fun _ h => by omega)⟩)⟩, HBo.out⟩⟩
      case round =>
        obtain ⟨a, mb, ha, rfl, rfl, RW⟩ := hrel
        by_cases hlt : a < n.a.length
        · have hli : (a : Int) < (n.a.length : Int) := by omega
          go_wp2_with fail
          go_loopw [6, 8, 9, 10] (fun m kv _ _ wr => ∃ (k : Nat) (mb : Bool), k ≤ (nxtL n a).length ∧ kv = .int .i64 k ∧ m = .bool mb ∧ Hid (RtW n s W0 d mb ((∀ a', a' < a → (wN n a' ≠ 1152921504606846976 → ClT n d a' (nxtL n a').length)) ∧ ClT n d a k) wr)) (fun _ kv _ _ _ => (nxtL n a).length - (intOf kv).toNat)
          case atStart =>
            obtain ⟨d1, e1, e2, e3, e4⟩ := RW.out.row
            exact ⟨0, mb, Nat.zero_le _, rfl, rfl, Lib.hid ⟨⟨d1, e1, e2, e3, fun h => ⟨(e4 h).1, (e4 h).2, ClT.zero⟩⟩, RW.out.below⟩⟩
          case round =>
            obtain ⟨k, mb2, hk, rfl, rfl, RV⟩ := hrel
            clear RW
            obtain ⟨d2, g1, g2, g3, g4⟩ := RV.out.row
            have hd2l := g1.len
            have HBv := Lib.hid RV.out.below
            have hnl : (nxtL n a).length ≤ 100000 := by
              unfold nxtL
              refine Nat.le_trans (List.length_filter_le _ _) ?_
              have := outs_short HN.out (n.arc a).2.1
              omega
            have htl : (trnL n a).length = (nxtL n a).length := List.length_map _
            obtain ⟨gg, q5, k5, rfl, y0, y1⟩ := (HA3.out.below HBv.out).at hlt hnl
            obtain ⟨gh, q6, k6, rfl, z0, z1⟩ := (HA4.out.below HBv.out).at hlt (by rw [htl]; exact hnl)
            obtain ⟨c0, c1, c2, c3, c4, -⟩ := (K0.out.keep HBv.out).o5
            have lgg := World.block_lt_of_cell? wr _ y0
            obtain ⟨ab2, ao2, eab, -, -, xa⟩ := HS0.out.a.at hlt
            obtain ⟨rfl, rfl⟩ : ab = ab2 ∧ ao = ao2 := by injection eab with e; injection e with e1 e2; exact ⟨e1, e2⟩
            obtain ⟨WA, hWA⟩ : ∃ x, n.a[a].2.2 = x := ⟨_, rfl⟩
            have hwa : wN n a = WA := by unfold wN; rw [NetGood.arc_at a hlt]; exact hWA
            rw [hWA] at xa
            have da := keep HBv.out xa
            have lda := World.block_lt_of_cell? wr _ da
            have HWA := Lib.hid hwa
            have G1 := Lib.hid g1
            have G2 := Lib.hid g2
            have G3 := Lib.hid g3
            have G4 := Lib.hid g4
            obtain ⟨NK, hNK⟩ : ∃ N, (nxtL n a).length = N := ⟨_, rfl⟩
            have HNK := Lib.hid hNK
            rw [hNK] at y0
            rw [htl, hNK] at z0
            have Y1 := Lib.hid y1
            have Z0 := Lib.hid z0
            have Z1 := Lib.hid z1
            have HTL := Lib.hid htl
            have hkn : k ≤ NK := by omega
            have hn5 : NK ≤ 100000 := by omega
            clear g1 g2 g3 g4 y1 z0 z1 htl hnl hNK eab xa hWA hwa hd2l RV
            by_cases hkl : k < NK
            · have hki : (k : Int) < (NK : Int) := by omega
              by_cases hda : ¬ WA = 1152921504606846976
              · have hdb : (WA == 1152921504606846976) = false := by simpa using hda
                obtain ⟨z, hz, ez, -, -⟩ := nxt_mem.1 (List.getElem_mem (l := nxtL n a) (n := k) (by rw [HNK.out]; exact hkl))
                obtain ⟨pb, po, rfl, yz⟩ := Y1.out.at (show k < (nxtL n a).length by rw [HNK.out]; exact hkl)
                rw [ez] at yz
                have lpb := World.block_lt_of_cell? wr _ yz
                obtain ⟨rb, rO, rfl, zt⟩ := Z1.out.at (show k < (trnL n a).length by rw [HTL.out, HNK.out]; exact hkl)
                have ezt : (trnL n a)[k]'(by rw [HTL.out, HNK.out]; exact hkl) = n.turn a z := by unfold trnL; rw [List.getElem_map, ez]
                rw [ezt] at zt
                obtain ⟨T, hT⟩ : ∃ T, n.turn a z = T := ⟨_, rfl⟩
                have hTb := turn_bd HN.out.good a z
                rw [hT] at zt hTb
                obtain ⟨ab2, ao2, eab, -, -, xw⟩ := HS0.out.a.at hz
                obtain ⟨rfl, rfl⟩ : ab = ab2 ∧ ao = ao2 := by injection eab with e; injection e with e1 e2; exact ⟨e1, e2⟩
                obtain ⟨WB, hWB⟩ : ∃ x, n.a[z].2.2 = x := ⟨_, rfl⟩
                have hwb : wN n z = WB := by unfold wN; rw [NetGood.arc_at z hz]; exact hWB
                have hwi := (HN.out.inn.2.1 n.a[z] (List.getElem_mem hz)).2.2
                rw [hWB] at xw hwi
                obtain ⟨DA, hDA⟩ : ∃ x, ctL d2 z = x := ⟨_, rfl⟩
                have HDA := Lib.hid hDA
                obtain ⟨C, hC⟩ : ∃ C, addC (addC DA T) WB = C := ⟨_, rfl⟩
                have HC := Lib.hid hC
                have HK1 : Hid (k + 1 ≤ (nxtL n a).length) := Lib.hid (by rw [HNK.out]; exact hkl)
                have HCO : Hid (addC (ctL d2 z) (oN n a z) = C) := Lib.hid (by rw [HDA.out]; unfold oN; rw [hT, hwb, ← addC_assoc]; exact hC)
                have hCb := addC_held (addC DA T) WB
                rw [hC] at hCb
                have hSb := addC_held DA T
                have hDlo := G1.out.lo hz
                rw [HDA.out] at hDlo
                have HTb := Lib.hid (And.intro hTb.1 hTb.2)
                have HWI := Lib.hid (And.intro hwi.1 hwi.2)
                have HSB := Lib.hid hSb
                have HDL := Lib.hid hDlo
                have HDH : Hid (DA ≤ 1152921504606846976) := Lib.hid (HDA.out ▸ G1.out.hi z hz)
                have XW := Lib.hid (keep HBv.out xw)
                have YZ := Lib.hid yz
                have ZT := Lib.hid zt
                have hzi : (z : Int) < (n.a.length : Int) := by omega
                have HEZ := Lib.hid ez
                have KW := Lib.hid (K0.out.keep HBv.out)
                have HDAc := Lib.hid (HDA.out ▸ G2.out.at (k := z) (by rw [G1.out.len]; exact hz))
                have HTZ := Lib.hid (G2.out.at (k := a) (by rw [G1.out.len]; exact hlt))
                clear ez hT ezt zt eab xw hDA hWB hwb hwi hC hSb hTb hDlo yz
                have yz := YZ.out
                go_wp2_with fail
                clear c0 c1 c2 c3 c4 y0 da lda lgg yz lpb
                have hGS : Grows (fun w' => Below wr.heap.size wr w') := Grows.below wr
                refine' wp_growL _ (fun w' => Below wr.heap.size wr w') [[], [], [0, 1], [2], [], [4], [], [5, 6], [7], [], [8, 9], [10], [3, 11], [], [13], [14], [], [15, 16], [17], [18], [12, 19], [20]] (Fact.lit _ :: Fact.lit _ :: Fact.lit _ :: Fact.lit _ :: Fact.lit _ :: Fact.lit _ :: Fact.lit _ :: Fact.lit _ :: Fact.lit _ :: Fact.lit _ :: Fact.lit _ :: Fact.lit _ :: Fact.lit _ :: Fact.lit _ :: Fact.lit _ :: Fact.lit _ :: Fact.lit _ :: Fact.lit _ :: Fact.lit _ :: Fact.lit _ :: Fact.lit _ :: Fact.lit _ :: []) (by kernel_rfl) rfl (by kernel_rfl) (Below.refl _ _).drew ?seqr15
                case' seqr15 => skip
                iterate 12 ((first | (apply grow_skip; (case hf => rfl); (case hw => rfl)) | (apply grow_lit; (case hf => rfl); (case hw => rfl); (case hrun => (intro w' hS H; clear H; (obtain ⟨c0, c1, c2, c3, c4, -⟩ := (KW.out.keep hS).o5); (have x0 := keep hS HDAc.out); (have x1 := keep hS Z0.out); (have x2 := keep hS ZT.out); (have l1 := World.block_lt_of_cell? w' _ x1); (have l2 := World.block_lt_of_cell? w' _ x2); clear hS; go_simp; first | done | exact rfl)))); (case hc => (simp only [Act.put, List.setIfInBounds_toArray, List.set_cons_zero, List.set_cons_succ]; first | done | exact rfl)); (try (case hj => rfl)))
                (refine' grow_call (u := .int .i64 (addC DA T)) rfl Tryz.func29 (by kernel_rfl) rfl hGS rfl ?wt47 ?run47 ?put47 ?next47; (case wt47 => rfl); (case run47 => (intro w' hS H; exact (radd_any DA T w' (by have := HDL.out; omega) (by have := HDH.out; omega) (by have := HTb.out; omega) (by have := HTb.out; omega)).mono (fun e w2 h => ⟨h.1, h.2 ▸ Below.refl _ _⟩))); (case put47 => (simp only [Act.put, List.setIfInBounds_toArray, List.set_cons_zero, List.set_cons_succ]; first | done | exact rfl)); (case' next47 => skip))
                iterate 7 ((first | (apply grow_skip; (case hf => rfl); (case hw => rfl)) | (apply grow_lit; (case hf => rfl); (case hw => rfl); (case hrun => (intro w' hS H; clear H; (obtain ⟨c0, c1, c2, c3, c4, -⟩ := (KW.out.keep hS).o5); (have x0 := keep hS XW.out); (have l1 := World.block_lt_of_cell? w' _ x0); clear hS; go_simp; first | done | exact rfl)))); (case hc => (simp only [Act.put, List.setIfInBounds_toArray, List.set_cons_zero, List.set_cons_succ]; first | done | exact rfl)); (try (case hj => rfl)))
                (refine' grow_call (u := .int .i64 C) rfl Tryz.func29 (by kernel_rfl) rfl hGS rfl ?wt48 ?run48 ?put48 ?next48; (case wt48 => rfl); (case run48 => (intro w' hS H; exact (radd_any (addC DA T) WB w' (by have := HSB.out; omega) (by have := HSB.out; omega) (by have := HWI.out; omega) (by have := HWI.out; omega)).mono (fun e w2 h => ⟨h.1.trans (by rw [HC.out]), h.2 ▸ Below.refl _ _⟩))); (case put48 => (simp only [Act.put, List.setIfInBounds_toArray, List.set_cons_zero, List.set_cons_succ]; first | done | exact rfl)); (case' next48 => skip))
                iterate 1 ((first | (apply grow_skip; (case hf => rfl); (case hw => rfl)) | (apply grow_lit; (case hf => rfl); (case hw => rfl); (case hrun => (intro w' hS H; clear H; skip; clear hS; go_simp; first | done | exact rfl)))); (case hc => (simp only [Act.put, List.setIfInBounds_toArray, List.set_cons_zero, List.set_cons_succ]; first | done | exact rfl)); (try (case hj => rfl)))
                intro w5 hb5 _
                have HB5 := Lib.hid (bOn6 HBv.out hb5)
                have R5 := Lib.hid (G2.out.keep hb5)
                have dz := keep hb5 HTZ.out
                have ldz := World.block_lt_of_cell? w5 _ dz
                have fz := Blk.free R5.out a
                obtain ⟨DZ, hDZ⟩ : ∃ x, ctL d2 a = x := ⟨_, rfl⟩
                rw [hDZ] at dz
                have HDZ := Lib.hid hDZ
                clear hb5 hGS hDZ XW YZ ZT Z0 Y1 Z1 HDAc HTZ KW
                by_cases hcz : C < DZ
                · have HX : Hid (RtW n s W0 d true ((∀ a', a' < a → (wN n a' ≠ 1152921504606846976 → ClT n d a' (nxtL n a').length)) ∧ ClT n d a (k + 1)) (w5.setCell ⟨W0.heap.size, a, none⟩ (.int .i64 C))) := Lib.hid ⟨⟨d2.set a C, G1.out.relax hlt hz (by rw [HWA.out]; exact hda) HCO.out (by rw [HDZ.out]; exact hcz), R5.out.put a C, fun _ => by
                    have h1 := G1.out.pot hlt hCb.1 (by rw [HDZ.out]; exact hcz)
                    cases mb2 with
                    | true => exact Nat.lt_trans h1 (G3.out rfl)
                    | false => obtain ⟨rfl, -⟩ := G4.out rfl; exact h1, (fun h => by cases h)⟩, HB5.out.setCell (Nat.le_refl _) _⟩
                  clear hCb
                  go_wp2_with fail
                  go_roundw
                  case rel => exact ⟨k + 1, true, HK1.out, by go_num, rfl, HX⟩
                  case measure => have := HK1.out; simp [intOf]; omega
                · have HX : Hid (RtW n s W0 d mb2 ((∀ a', a' < a → (wN n a' ≠ 1152921504606846976 → ClT n d a' (nxtL n a').length)) ∧ ClT n d a (k + 1)) w5) := Lib.hid ⟨⟨d2, G1.out, R5.out, G3.out, fun h => by
                    obtain ⟨rfl, h1, h2⟩ := G4.out h
                    exact ⟨rfl, h1, h2.succ (by rw [HNK.out]; exact hkl) HEZ.out (by rw [HCO.out, HDZ.out]; omega)⟩⟩, HB5.out⟩
                  clear hCb
                  go_wp2_with fail
                  go_roundw
                  case rel => exact ⟨k + 1, mb2, HK1.out, by go_num, rfl, HX⟩
                  case measure => have := HK1.out; simp [intOf]; omega
              · have hwe : WA = 1152921504606846976 := Classical.byContradiction hda
                have HX : Hid (RtW n s W0 d mb2 (∀ a', a' < a + 1 → (wN n a' ≠ 1152921504606846976 → ClT n d a' (nxtL n a').length)) wr) := Lib.hid ⟨⟨d2, G1.out, G2.out, G3.out, fun h => by
                  obtain ⟨rfl, h1, h2⟩ := G4.out h
                  refine ⟨rfl, fun a' ha' hw => ?_⟩
                  by_cases e : a' = a
                  · subst e; exact absurd (HWA.out.trans hwe) hw
                  · exact h1 a' (by omega) hw⟩, HBv.out⟩
                clear hda
                subst hwe
                go_wp2_with fail
                go_roundw
                case rel => exact ⟨a + 1, mb2, by omega, by go_num, rfl, HX⟩
                case measure => simp [intOf]; omega
            · have hki : ¬ (k : Int) < (NK : Int) := by omega
              have HX : Hid (RtW n s W0 d mb2 (∀ a', a' < a + 1 → (wN n a' ≠ 1152921504606846976 → ClT n d a' (nxtL n a').length)) wr) := Lib.hid ⟨⟨d2, G1.out, G2.out, G3.out, fun h => by
                obtain ⟨rfl, h1, h2⟩ := G4.out h
                refine ⟨rfl, fun a' ha' => ?_⟩
                by_cases e : a' = a
                · subst e
                  intro _
                  rw [show (nxtL n a').length = k from by rw [HNK.out]; omega]
                  exact h2
                · exact h1 a' (by omega)⟩, HBv.out⟩
              clear da lda
              go_wp2_with fail
              go_roundw
              case rel => exact ⟨a + 1, mb2, by omega, by go_num, rfl, HX⟩
              case measure => simp [intOf]; omega
        · obtain rfl : a = n.a.length := by omega
          have hli : ¬ (n.a.length : Int) < (n.a.length : Int) := by omega
          obtain ⟨d1, e1, e2, e3, e4⟩ := RW.out.row
          have E1 := Lib.hid e1
          have E2 := Lib.hid e2
          have E3 := Lib.hid e3
          have E4 := Lib.hid e4
          have HBv := Lib.hid RW.out.below
          clear e1 e2 e3 e4 RW
          go_wp2_with fail
          go_roundw
          case rel => exact ⟨mb, d1, rfl, E1, E2, HBv, Lib.hid (fun h => by obtain ⟨rfl, c⟩ := E4.out h; exact c)⟩
          case measure =>
            have h1 := E2.out.pot E1.out.len
            have h2 := HP.out
            cases mb with
            | true => have h3 := E3.out rfl; simp [mOf, h1, h2]; omega
            | false => obtain ⟨rfl, -⟩ := E4.out rfl; simp [mOf, h1, h2]

set_option maxHeartbeats 4000000 in
set_option maxRecDepth 100000 in
theorem rto_shut {w : World} {base : Nat} {rv : Value} {n : NetD} {s : Nat} (h : RoadsV w base rv n) (hn : GrN n) (hs : s < n.a.length) (ho : wN n s = 1152921504606846976) : Calls Tryz.prog 14 #[rv, .int .i64 s] w fun e w' => ∃ b, e = .returned (.slice (some ⟨b, 0, none⟩) n.a.length n.a.length) ∧ w.heap.size ≤ b ∧ RowC w' b (List.replicate n.a.length 1152921504606846976) ∧ Below w.heap.size w w' := by
  obtain ⟨vq, aq, tq, vc, ac, tc, u3, u4, rfl, hsn, R3, R4⟩ := h
  obtain ⟨q3, k3, rfl⟩ := R3.shape
  obtain ⟨q4, k4, rfl⟩ := R4.shape
  have hsa := hn.few.a
  have HN := Lib.hid hn
  obtain ⟨ab, ao, rfl, -, -, x2⟩ := hsn.a.at hs
  have ews : wN n s = n.a[s].2.2 := by unfold wN; rw [NetGood.arc_at s hs]
  obtain ⟨X, hX⟩ : ∃ X, n.a[s].2.2 = X := ⟨_, rfl⟩
  rw [hX] at x2 ews
  obtain rfl : X = 1152921504606846976 := by rw [← ews]; exact ho
  have hsi : (s : Int) < (n.a.length : Int) := by omega
  have HS := Lib.hid hsn
  have HR3 := Lib.hid R3
  have HR4 := Lib.hid R4
  have X2 := Lib.hid x2
  clear hn hsn R3 R4 hX x2 ews ho
  go_enter Tryz.func14, Tryz.ntmps14
  go_wp2_with fail
  obtain ⟨W0, hW0⟩ := named (w.alloc (.cells #[.slice vq n.v.length vc, .slice (some ⟨ab, ao, none⟩) n.a.length ac, .slice tq n.t.length tc, .slice q3 n.a.length k3, .slice q4 n.a.length k4] 34))
  rw [← hW0]
  have B0 : Hid (Below w.heap.size w W0) := by rw [hW0]; exact Lib.hid (below_alloc1 _)
  have K0 : Hid (Blk W0 w.heap.size #[.slice vq n.v.length vc, .slice (some ⟨ab, ao, none⟩) n.a.length ac, .slice tq n.t.length tc, .slice q3 n.a.length k3, .slice q4 n.a.length k4] 34) := by rw [hW0]; exact Lib.hid (Blk.new _ _ _ _ rfl)
  clear hW0
  have HS0 := Lib.hid (HS.out.below B0.out)
  have HA3 := Lib.hid (HR3.out.below B0.out)
  have HA4 := Lib.hid (HR4.out.below B0.out)
  have X20 := Lib.hid (keep B0.out X2.out)
  clear HS HR3 HR4 X2
  refine (rnever n.a.length (by omega) _).mono ?_
  rintro e w1 ⟨rfl, hr, hb⟩
  have HR := Lib.hid hr
  have HB := Lib.hid hb
  have K1 := Lib.hid (K0.out.keep hb)
  obtain ⟨c0, c1, c2, -⟩ := K1.out.o5
  clear hr hb
  go_wp2_with fail
  clear c0 c1 c2
  refine (rthere_any n vq (some ⟨ab, ao, none⟩) tq vc ac tc s _).mono ?_
  rintro e w2 ⟨rfl, hb2⟩
  rw [there_at (n := n) hs]
  have HR2 := Lib.hid (HR.out.keep hb2)
  have HB2 : Hid (Below W0.heap.size W0 w2) := Lib.hid (bOn6 HB.out hb2)
  have K2 := Lib.hid (K0.out.keep HB2.out)
  obtain ⟨c0, c1, c2, -⟩ := K2.out.o5
  have x2 := keep HB2.out X20.out
  have lab := World.block_lt_of_cell? w2 _ x2
  have hz := B0.out.size
  have HBF : Hid (Below w.heap.size w w2) := Lib.hid (bOn6 B0.out HB2.out)
  clear hb2 HR HB K1
  go_wp2_with fail
  go_ret
  exact ⟨_, rfl, hz, HR2.out, HBF.out⟩

/-- What To tells: a row of the call's own. -/
theorem rto_is {w : World} {base : Nat} {rv : Value} {n : NetD} {s : Int} (h : RoadsV w base rv n) (hn : GrN n) : Calls Tryz.prog 14 #[rv, .int .i64 s] w fun e w' => ∃ b d, e = .returned (.slice (some ⟨b, 0, none⟩) n.a.length n.a.length) ∧ w.heap.size ≤ b ∧ RowC w' b d ∧ ToP n s d ∧ Below w.heap.size w w' := by
  cases ht : n.there s with
  | false =>
    refine (rto_out h hn ht).mono ?_
    rintro e w' ⟨b, h1, h2, h3, h4⟩
    refine ⟨b, _, h1, h2, h3, ToP.none (fun k e hk => ?_), h4⟩
    subst e
    rw [there_at hk] at ht
    cases ht
  | true =>
    obtain ⟨k, rfl, hk⟩ := there_of ht
    by_cases ho : wN n k = 1152921504606846976
    · refine (rto_shut h hn hk ho).mono ?_
      rintro e w' ⟨b, h1, h2, h3, h4⟩
      refine ⟨b, _, h1, h2, h3, ToP.none (fun j e hj => ?_), h4⟩
      obtain rfl : k = j := by omega
      exact ho
    · exact rto_main h hn hk ho

end Go.Proofs.YtgihaakgadmidaaGreat

/-
  The document's Dist.
-/
namespace Go.Proofs.YtgihaakgadmidaaGreat
open HP Go.RowKit

theorem ctL_out {d : List Int} {n : NetD} {s : Int} (h : FromP n s d) {w : World} {b : Nat} (hr : RowC w b d) {t : Nat} (ht : t < n.a.length) : w.cell? ⟨b, t, none⟩ = some (.int .i64 (ctL d t)) := hr.at (by rw [h.1]; exact ht)

set_option maxHeartbeats 2000000 in
set_option maxRecDepth 100000 in
theorem rdist_out {w : World} {base : Nat} {rv : Value} {n : NetD} {s t : Int} (h : RoadsV w base rv n) (ht : n.there t = false) : Calls Tryz.prog 16 #[rv, .int .i64 s, .int .i64 t] w fun e w' => e = .returned (.int .i64 1152921504606846976) ∧ Below w.heap.size w w' := by
  obtain ⟨vq, aq, tq, vc, ac, tc, u3, u4, rfl, hs, R3, R4⟩ := h
  have HT := Lib.hid ht
  clear ht hs R3 R4
  go_enter Tryz.func16, Tryz.ntmps16
  go_wp2_with fail
  obtain ⟨W0, hW0⟩ := named (w.alloc (.cells #[.slice vq n.v.length vc, .slice aq n.a.length ac, .slice tq n.t.length tc, u3, u4] 34))
  rw [← hW0]
  have B0 : Hid (Below w.heap.size w W0) := by rw [hW0]; exact Lib.hid (below_alloc1 _)
  clear hW0
  refine (rthere_any n vq aq tq vc ac tc t _).mono ?_
  rintro e w2 ⟨rfl, hb2⟩
  rw [HT.out]
  have HB2 : Hid (Below w.heap.size w w2) := Lib.hid (bOn6 B0.out hb2)
  clear hb2
  go_wp2_with fail
  go_ret
  exact ⟨rfl, HB2.out⟩

set_option maxHeartbeats 2000000 in
set_option maxRecDepth 100000 in
theorem rdist_in {w : World} {base : Nat} {rv : Value} {n : NetD} {s : Int} {t : Nat} (h : RoadsV w base rv n) (hn : GrN n) (ht : t < n.a.length) : Calls Tryz.prog 16 #[rv, .int .i64 s, .int .i64 t] w fun e w' => ∃ d, e = .returned (.int .i64 (ctL d t)) ∧ FromP n s d ∧ Below w.heap.size w w' := by
  obtain ⟨vq, aq, tq, vc, ac, tc, u3, u4, rfl, hs, R3, R4⟩ := id h
  have HRV := Lib.hid h
  have HN := Lib.hid hn
  have hti : (t : Int) < (n.a.length : Int) := by omega
  clear hs R3 R4 h hn
  go_enter Tryz.func16, Tryz.ntmps16
  go_wp2_with fail
  obtain ⟨W0, hW0⟩ := named (w.alloc (.cells #[.slice vq n.v.length vc, .slice aq n.a.length ac, .slice tq n.t.length tc, u3, u4] 34))
  rw [← hW0]
  have B0 : Hid (Below w.heap.size w W0) := by rw [hW0]; exact Lib.hid (below_alloc1 _)
  have K0 : Hid (Blk W0 w.heap.size #[.slice vq n.v.length vc, .slice aq n.a.length ac, .slice tq n.t.length tc, u3, u4] 34) := by rw [hW0]; exact Lib.hid (Blk.new _ _ _ _ rfl)
  clear hW0
  refine (rthere_any n vq aq tq vc ac tc t _).mono ?_
  rintro e w2 ⟨rfl, hb2⟩
  rw [there_at (n := n) ht]
  have HB2 : Hid (Below w.heap.size w w2) := Lib.hid (bOn6 B0.out hb2)
  obtain ⟨c0, c1, c2, c3, c4, -⟩ := (K0.out.keep hb2).o5
  clear hb2
  go_wp2_with fail
  clear c0 c1 c2 c3 c4
  refine (rfrom_is (HRV.out.below HB2.out) HN.out).mono ?_
  rintro e w3 ⟨b, d, rfl, hz, hr, hf, hb3⟩
  have HB3 : Hid (Below w.heap.size w w3) := Lib.hid (bOn6 HB2.out hb3)
  have hc := ctL_out hf hr ht
  have hl := World.block_lt_of_cell? w3 _ hc
  have HF := Lib.hid hf
  clear hb3 hr hz hf
  go_wp2_with fail
  go_ret
  exact ⟨d, rfl, HF.out, HB3.out⟩

end Go.Proofs.YtgihaakgadmidaaGreat
