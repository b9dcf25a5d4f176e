/-
  The law's own 'Tells': an error's chain, held against the document's word of it.
-/
import Derived.Test.YthfljimgpcignaaGreatDoorG29
import Derived.RegionTactic
import Derived.StillTactics
import Derived.WalkSpells
import Derived.WalkLawsBesides
import Derived.Test.YthfljimgpcignaaGreatDoorG11
namespace Go.Proofs.YthfljimgpcignaaGreatDoor
open Go.RowKit

/-- Block t's one variable was set to x; below it, and in all other old blocks, all is as it was. -/
structure SetAt (w w' : World) (t : Nat) (x : Value) : Prop where
  here : w'.cell? ⟨t, 0, none⟩ = some x
  old : ∀ (b o : Nat), b < w.heap.size → b ≠ t → w'.cell? ⟨b, o, none⟩ = w.cell? ⟨b, o, none⟩
  below : Below t w w'
theorem setAt_of {w w1 : World} {t : Nat} {x old : Value} (hb : Below w.heap.size w w1) (ht : w.cell? ⟨t, 0, none⟩ = some old) : SetAt w (w1.setCell ⟨t, 0, none⟩ x) t x := by
  have hl : t < w.heap.size := World.block_lt_of_cell? w _ ht
  have h1 : w1.cell? ⟨t, 0, none⟩ = some old := (hb.cell hl).trans ht
  refine ⟨World.cell?_setCell_same w1 _ x h1, fun b o hlt hne => ?_, ?_⟩
  · rw [World.cell?_setCell_other w1 ⟨t, 0, none⟩ ⟨b, o, none⟩ x (by intro e; injection e with e1; exact hne e1.symm)]
    exact hb.cell hlt
  · exact (hb.mono (Nat.le_of_lt hl)).setCell (Nat.le_refl _) x

theorem as_fault_at (b t : Nat) (old : Value) (w : World) (hg : ErrT w) (ht0 : w.cell? ⟨t, 0, none⟩ = some old) (hf0 : w.frozen? ⟨t, 0, none⟩ = false) :
    Calls Tryz.prog 28 #[.iface 60 (.pointer (some ⟨b, 0, none⟩)), .iface 62 (.pointer (some ⟨t, 0, none⟩))] w fun ev w' => ev = .returned (.bool true) ∧ SetAt w w' t (.pointer (some ⟨b, 0, none⟩)) :=
  (as_fault _ _ old w hg ht0 hf0).mono fun e w' ⟨he, w1, hb, hw⟩ => ⟨he, by rw [hw]; exact setAt_of hb ht0⟩
theorem as_errno_at (n : Int) (t : Nat) (old : Value) (w : World) (hg : ErrT w) (ht0 : w.cell? ⟨t, 0, none⟩ = some old) (hf0 : w.frozen? ⟨t, 0, none⟩ = false) :
    Calls Tryz.prog 28 #[.iface 59 (.int .i64 n), .iface 67 (.pointer (some ⟨t, 0, none⟩))] w fun ev w' => ev = .returned (.bool true) ∧ SetAt w w' t (.int .i64 n) :=
  (as_errno _ _ old w hg ht0 hf0).mono fun e w' ⟨he, w1, hb, hw⟩ => ⟨he, by rw [hw]; exact setAt_of hb ht0⟩

theorem ret_boolT {a b : Bool} (h : a = b) : Ending.returned (.bool a) = .returned (.bool b) := by rw [h]
theorem tells_nil (sv : Value) (w : World) :
    Calls Tryz.prog 15 #[.nilIface, .agg #[sv, .int .i64 0]] w fun e w' => e = .returned (.bool true) ∧ Below w.heap.size w w' := by
  go_enter Tryz.func15, Tryz.ntmps15
  go_wp2
  go_ret
  exact ⟨rfl, (Below.refl _ _).alloc (Nat.le_refl _) _⟩

theorem ErrV.head {w : World} {v : Value} {ps : List (ByteArray × Int)} {a : Int} (h : ErrV w v ps a) (hl : 1 ≤ ps.length) : ∃ b, v = .iface 60 (.pointer (some ⟨b, 0, none⟩)) := by
  match ps, h, hl with
  | (_, _) :: _, ⟨b, u, hv, _⟩, _ => exact ⟨b, hv⟩
theorem ErrV.at {w : World} {v : Value} {ps : List (ByteArray × Int)} {a : Int} {k : Nat} (h : ErrV w v (ps.drop k) a) (hk : k < ps.length) :
    ∃ (b : Nat) (u : Value), v = .iface 60 (.pointer (some ⟨b, 0, none⟩)) ∧ w.cell? ⟨b, 0, none⟩ = some (.string ps[k].1) ∧ w.cell? ⟨b, 1, none⟩ = some (.int .i64 ps[k].2) ∧ w.cell? ⟨b, 2, none⟩ = some u ∧ ErrV w u (ps.drop (k + 1)) a := by
  rw [List.drop_eq_getElem_cons hk] at h
  exact h

/-- A region that draws its order, from where five of its operations have come up on, when all that is left yields and turns nothing. -/
theorem wpAny_tail5 {P : Program} {md : Region.Mode} {Q' : Exit → Act → World → Prop} {o0 o1 o2 o3 o4 : Oper} {l : List Oper} {listed : Array Bool} {a : Act} {w : World}
    (hs : Region.noSelect (o0 :: o1 :: o2 :: o3 :: o4 :: l).toArray = true) (hB : Region.lexFrom md (o0 :: o1 :: o2 :: o3 :: o4 :: l).toArray l.length 5 listed = true)
    (h : wpStill P (o0 :: o1 :: o2 :: o3 :: o4 :: l).toArray w (fun a' => Q' .normal a' w) l a) : wpAny P md (o0 :: o1 :: o2 :: o3 :: o4 :: l).toArray Q' l.length listed a w :=
  wpAny_of_still (Q := fun a' => Q' .normal a' w) (fun _ h => h) _ _ _ (wpAnyS_lex hs l 5 listed a (fun j => by rw [Nat.add_comm]; simp) hB h)

/-- Ahead of round k: what is still to be held against the parts. -/
structure TellsAt (w : World) (ps : List (ByteArray × Int)) (a : Int) (sv : Value) (k : Nat) (err : Value) (wr : World) : Prop where
  le : k ≤ ps.length
  err : ErrV wr err (ps.drop k) a
  box0 : wr.cell? ⟨w.heap.size, 0, none⟩ = some sv
  box1 : wr.cell? ⟨w.heap.size, 1, none⟩ = some (.int .i64 a)
  below : Below w.heap.size w wr
  lt : w.heap.size < wr.heap.size

set_option maxRecDepth 100000 in
set_option maxHeartbeats 2000000 in
theorem tells_any (v wv : Value) (ps : List (ByteArray × Int)) (a : Int) (w : World) (hg : ErrT w) (hE : ErrV w v ps a) (hW : WrongV w wv ps a) (h1 : 1 ≤ ps.length) (h2 : ps.length ≤ 2) (ha : ¬ a = 0) :
    Calls Tryz.prog 15 #[v, wv] w fun e w' => e = .returned (.bool true) ∧ Below w.heap.size w w' := by
  obtain ⟨sv, rfl, hsv⟩ := hW
  rcases hsv with ⟨rfl, _⟩ | ⟨hlen, pb, po, pc, rfl, hp1, hp2⟩
  · simp at h1
  obtain ⟨b, rfl⟩ := hE.head h1
  have ha' : (a == 0) = false := by simpa using ha
  have HP1 := Lib.hid hp1
  have HP2 := Lib.hid hp2
  clear hp1 hp2
  have HE := Lib.hid hE
  have hgl := hg.lt
  have HG := Lib.hid hg
  clear hE hg
  go_enter Tryz.func15, Tryz.ntmps15
  go_wp2_with (go_at_call 27; refine (is_chain (HE.out.below ((Below.refl _ _).alloc (Nat.le_refl _) _)) h1 h2).mono ?_; rintro e w' ⟨rfl, rfl⟩)
  go_loopw [0, 5] (fun err i wr => ∃ k : Nat, i = .int .i64 k ∧ TellsAt w ps a (.slice (some ⟨pb, po, none⟩) ps.length pc) k err wr) (fun _ i _ => ps.length - (intOf i).toNat)
  case atStart => exact ⟨0, rfl, ⟨Nat.zero_le _, HE.out.below ((Below.refl _ _).alloc (Nat.le_refl _) _), by simp, by simp, (Below.refl _ _).alloc (Nat.le_refl _) _, by simp⟩⟩
  case round =>
    obtain ⟨k, rfl, hT⟩ := hrel
    have hk := hT.le
    have g0 := hT.box0
    have g1 := hT.box1
    have hb := hT.below
    have hlt0 := hT.lt
    by_cases hlt : k < ps.length
    · obtain ⟨fb, u, rfl, c0, c1, c2, hr⟩ := hT.err.at hlt
      have q1 := (hb.cell (World.block_lt_of_cell? w _ (HP1.out k hlt))).trans (HP1.out k hlt)
      have q2 := (hb.cell (World.block_lt_of_cell? w _ (HP2.out k hlt))).trans (HP2.out k hlt)
      have l1 := World.block_lt_of_cell? wr _ q1
      have l2 := World.block_lt_of_cell? wr _ c0
      have HB := Lib.hid hb
      have HR := Lib.hid hr
      have k0 : (0 : Int) ≤ (k : Int) := Int.natCast_nonneg _
      have k1 : (k : Int) < (ps.length : Int) := by omega
      clear hb hr
      have s0 : (wr.alloc (.cells #[.pointer none] 60)).cell? ⟨w.heap.size, 0, none⟩ = some (.slice (some ⟨pb, po, none⟩) ps.length pc) := (World.cell?_alloc_lt _ _ ⟨w.heap.size, 0, none⟩ hlt0).trans g0
      have s1 : (wr.alloc (.cells #[.pointer none] 60)).cell? ⟨pb, po + k * 2, none⟩ = some (.string ps[k].1) := (World.cell?_alloc_lt _ _ ⟨pb, po + k * 2, none⟩ l1).trans q1
      have s2 : (wr.alloc (.cells #[.pointer none] 60)).cell? ⟨pb, po + k * 2 + 1, none⟩ = some (.int .i64 ps[k].2) := (World.cell?_alloc_lt _ _ ⟨pb, po + k * 2 + 1, none⟩ l1).trans q2
      have s3 : (wr.alloc (.cells #[.pointer none] 60)).cell? ⟨fb, 0, none⟩ = some (.string ps[k].1) := (World.cell?_alloc_lt _ _ ⟨fb, 0, none⟩ l2).trans c0
      have s4 : (wr.alloc (.cells #[.pointer none] 60)).cell? ⟨fb, 1, none⟩ = some (.int .i64 ps[k].2) := (World.cell?_alloc_lt _ _ ⟨fb, 1, none⟩ l2).trans c1
      have s5 : (wr.alloc (.cells #[.pointer none] 60)).cell? ⟨fb, 2, none⟩ = some u := (World.cell?_alloc_lt _ _ ⟨fb, 2, none⟩ l2).trans c2
      go_wp2_with fail
      refine wp_region_any (by kernel_rfl) ?_
      change wpAny _ _ _ _ _ _ _ (World.drew _)
      refine wpAny_take (i := 0) (v := .iface 60 (.pointer (some ⟨fb, 0, none⟩))) rfl (by kernel_rfl) (by kernel_rfl) (by kernel_rfl) (fun _ _ _ h => h) (Or.inl ⟨by rfl, ?y0⟩) ?_
      case y0 => (intro w; go_simp)
      refine wpAny_take (i := 1) (v := .iface 62 (.pointer (some ⟨wr.heap.size, 0, none⟩))) rfl (by kernel_rfl) (by kernel_rfl) (by kernel_rfl) (fun _ _ _ h => h) (Or.inl ⟨by rfl, ?y1⟩) ?_
      case y1 => (intro w; go_simp)
      refine wpAny_ready (rs := [2]) (by kernel_rfl) (by simp) (AllReady.cons rfl (fun K hK => ?_) AllReady.nil)
      go_simp
      go_wp2_with (go_at_call 28; refine (as_fault_at fb wr.heap.size (.pointer none) _ ?hgg ?htt ?hff).mono ?_; (case hgg => exact (HG.out.below hgl (HB.out.trans ((Below.refl _ _).alloc (Nat.le_of_lt hlt0) _)) : ErrT _)); (case htt => simp); (case hff => simp); rintro e w2 ⟨rfl, hset⟩)
      have hh := hset.here
      have t0 := (hset.old _ _ (by simp; omega) (by omega)).trans s0
      have t1 := (hset.old _ _ (by simp; omega) (by omega)).trans s1
      have t2 := (hset.old _ _ (by simp; omega) (by omega)).trans s2
      have t3 := (hset.old _ _ (by simp; omega) (by omega)).trans s3
      have t4 := (hset.old _ _ (by simp; omega) (by omega)).trans s4
      have t5 := (hset.old _ _ (by simp; omega) (by omega)).trans s5
      have HS := Lib.hid hset
      clear hset s0 s1 s2 s3 s4 s5
      refine wpAny_ready (rs := [3]) (by kernel_rfl) (by simp) (AllReady.cons rfl (fun K hK => ?_) AllReady.nil)
      go_simp
      refine hK _ _ ?_
      clear hK K
      refine wpAny_ready (rs := [4]) (by kernel_rfl) (by simp) (AllReady.cons rfl (fun K hK => ?_) AllReady.nil)
      go_simp
      refine hK _ _ ?_
      clear hK K
      refine wpAny_tail5 (by kernel_rfl) (by kernel_rfl) ?_
      repeat still_step
      refine wpStill_nil ?_
      have hstep : Below wr.heap.size wr w2 := (((Below.refl _ _).alloc (Nat.le_refl _) _).drew).trans HS.out.below
      have HQ := Lib.hid hstep
      clear hstep
      go_wp2
      go_roundw
      case rel => exact ⟨k + 1, by go_num, ⟨by omega, HR.out.below HQ.out, (HQ.out.cell hlt0).trans g0, (HQ.out.cell hlt0).trans g1, HB.out.trans (HQ.out.mono (Nat.le_of_lt hlt0)), Nat.lt_of_lt_of_le hlt0 HQ.out.size⟩⟩
      case measure => simp [intOf]; omega
    · have hke : k = ps.length := by omega
      have hv := hT.err
      rw [hke, List.drop_length] at hv
      unfold ErrV at hv
      subst hv
      have HB := Lib.hid hb
      have HK := Lib.hid hke
      clear hb hke
      go_wp2_with fail
      refine (as_miss a ⟨wr.heap.size, 0, none⟩ _ (HG.out.below hgl (HB.out.trans (((Below.refl _ _).alloc (Nat.le_of_lt hlt0) _).alloc (by simp; omega) _)) : ErrT _)).mono ?_
      rintro e w2 ⟨rfl, hb2⟩
      have n0 : w2.cell? ⟨wr.heap.size + 1, 0, none⟩ = some (.int .i64 0) := (hb2.cell (by simp)).trans (by simp)
      have n1 : w2.frozen? ⟨wr.heap.size + 1, 0, none⟩ = false := (hb2.frozen (by simp)).trans (by simp)
      have n2 : ErrT w2 := HG.out.below hgl (HB.out.trans ((((Below.refl _ _).alloc (Nat.le_of_lt hlt0) _).alloc (by simp; omega) _).trans (hb2.mono (by simp; omega))))
      have HC := Lib.hid hb2
      have HN := Lib.hid n2
      clear hb2 n2
      go_wp2_with fail
      refine (as_errno_at a (wr.heap.size + 1) (.int .i64 0) _ HN.out n0 n1).mono ?_
      rintro e w3 ⟨rfl, hset⟩
      have hh := hset.here
      have hx : w3.cell? ⟨w.heap.size, 1, none⟩ = some (.int .i64 a) := (hset.old _ _ (Nat.lt_of_lt_of_le hlt0 (Nat.le_trans (by simp; omega) HC.out.size)) (by omega)).trans ((HC.out.cell (by simp; omega)).trans (((World.cell?_alloc_lt _ _ ⟨w.heap.size, 1, none⟩ (by simp; omega)).trans (World.cell?_alloc_lt _ _ ⟨w.heap.size, 1, none⟩ hlt0)).trans g1))
      have hf : Below w.heap.size w w3 := HB.out.trans ((((Below.refl _ _).alloc (Nat.le_of_lt hlt0) _).alloc (by simp; omega) _).trans ((HC.out.mono (by simp; omega)).trans (hset.below.mono (by omega))))
      have HF := Lib.hid hf
      clear hset hf
      go_wp2
      go_ret
      exact ⟨ret_boolT (by simp), HF.out⟩

end Go.Proofs.YthfljimgpcignaaGreatDoor

/-
  Tells, at a Fault and a Wrong that were just laid.
-/
namespace Go.Proofs.YthfljimgpcignaaGreatDoor
open Go.RowKit

/-- Tells, at a Fault and a Wrong that were just laid. -/
theorem tells_laid (w : World) (g b : Nat) (p : ByteArray) (n a : Int) (hgs : w.heap.size + 1 = g) (hg : ErrT w) (c0 : w.cell? ⟨b, 0, none⟩ = some (.string p)) (c1 : w.cell? ⟨b, 1, none⟩ = some (.int .i64 n)) (c2 : w.cell? ⟨b, 2, none⟩ = some (.iface 59 (.int .i64 a))) (ha : ¬ a = 0) :
    Calls Tryz.prog 15 #[.iface 60 (.pointer (some ⟨b, 0, none⟩)), .agg #[.slice (some ⟨g, 0, none⟩) 1 1, .int .i64 a]] ((w.alloc (.cells #[.slice (some ⟨g, 0, none⟩) 1 1, .int .i64 a] 28)).alloc (.cells #[.string p, .int .i64 n] 66)) fun e w' => e = .returned (.bool true) ∧ Below w.heap.size w w' := by
  subst hgs
  have hb := atWorld_below p n a w
  have hE : ErrV w (.iface 60 (.pointer (some ⟨b, 0, none⟩))) [(p, n)] a := ⟨b, _, rfl, c0, c1, c2, rfl⟩
  exact (tells_any _ _ [(p, n)] a (atWorld p n a w) (hg.below hg.lt hb) (hE.below hb) (atWorld_wrong p n a w) (by simp) (by simp) ha).mono fun e w' ⟨h, h'⟩ => ⟨h, hb.trans (h'.mono (by rw [atWorld_size]; omega))⟩

end Go.Proofs.YthfljimgpcignaaGreatDoor
