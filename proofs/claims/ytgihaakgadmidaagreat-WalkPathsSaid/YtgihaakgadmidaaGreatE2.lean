/-
  The program's graph: is there an arc; how many; where an arc begins and ends, what it costs; its places; a vertex's arcs; a Fault.
-/
import Derived.Test.YtgihaakgadmidaaGreatE1
namespace Go.Proofs.YtgihaakgadmidaaGreat
open Go.RowKit

abbrev gp (p : Nat) : Value := .pointer (some ⟨p, 0, none⟩)
theorem gamong_is (i n : Int) (b : Bool) (w : World) (h : decide (0 ≤ i ∧ i < n) = b) : Calls Tryz.prog 91 #[.int .i64 i, .int .i64 n] w fun e w' => e = .returned (.bool b) ∧ w = w' := by
  by_cases h0 : 0 ≤ i
  · by_cases h1 : i < n
    · obtain rfl : b = true := by rw [← h]; simp [h0, h1]
      clear h
      have d0 : decide (0 ≤ i) = true := by simpa using h0
      go_enter Tryz.func91, Tryz.ntmps91
      go_wp2
      go_ret
      exact ⟨rfl, rfl⟩
    · obtain rfl : b = false := by rw [← h]; simp; omega
      clear h
      have d0 : decide (0 ≤ i) = true := by simpa using h0
      have d1 : decide (i < n) = false := by simp; omega
      go_enter Tryz.func91, Tryz.ntmps91
      go_wp2
      go_ret
      exact ⟨rfl, rfl⟩
  · obtain rfl : b = false := by rw [← h]; simp; omega
    clear h
    have d0 : decide (0 ≤ i) = false := by simp; omega
    go_enter Tryz.func91, Tryz.ntmps91
    go_wp2
    go_ret
    exact ⟨rfl, rfl⟩
section
variable {P : Nat → Prop} {w : World} {p : Nat} {n : NetD} {uv va vt : Value} {b1 d1 b2 d2 : Nat}
theorem GrS.o7 (h : GrS P w p n uv va vt b1 d1 b2 d2) : w.cell? ⟨p, 0, none⟩ = some uv ∧ w.cell? ⟨p, 1, none⟩ = some va ∧ w.cell? ⟨p, 2, none⟩ = some vt ∧ w.cell? ⟨p, 3, none⟩ = some (.slice (some ⟨b1, 0, none⟩) n.v.length n.v.length) ∧ w.cell? ⟨p, 4, none⟩ = some (.slice (some ⟨d1, 0, none⟩) n.a.length n.a.length) ∧ w.cell? ⟨p, 5, none⟩ = some (.slice (some ⟨b2, 0, none⟩) n.v.length n.v.length) ∧ w.cell? ⟨p, 6, none⟩ = some (.slice (some ⟨d2, 0, none⟩) n.a.length n.a.length) := by
  obtain ⟨c0, c1, c2, c3, c4, c5, c6, -⟩ := Blk.o7 h.k
  exact ⟨c0, c1, c2, c3, c4, c5, c6⟩
/-- The cells of arc k. -/
theorem GrS.arc {aq : Option Addr} {ac : Nat} (h : GrS P w p n uv (.slice aq n.a.length ac) vt b1 d1 b2 d2) {k : Nat} (hk : k < n.a.length) : ∃ b, aq = some ⟨b, 0, none⟩ ∧ b < w.heap.size ∧ w.cell? ⟨b, k * 3, none⟩ = some (.int .i64 n.a[k].1) ∧ w.cell? ⟨b, k * 3 + 1, none⟩ = some (.int .i64 n.a[k].2.1) ∧ w.cell? ⟨b, k * 3 + 2, none⟩ = some (.int .i64 n.a[k].2.2) := by
  have ha := h.a
  rcases ha.2 with ⟨e, e0⟩ | ⟨g, cap, cur, e, _, hh, _⟩
  · omega
  · injection e with e1 e2 e3
    subst e1
    subst e3
    obtain ⟨x, y, z⟩ := flatT_at n.a k hk
    exact ⟨g, rfl, (Array.getElem?_eq_some_iff.1 hh).1, (ha.cellAt _ (by omega)).trans x, (ha.cellAt _ (by omega)).trans y, (ha.cellAt _ (by omega)).trans z⟩

set_option maxHeartbeats 1000000 in
set_option maxRecDepth 100000 in
theorem garcs_is (h : GrS P w p n uv va vt b1 d1 b2 d2)  : Calls Tryz.prog 62 #[gp p] w fun e w' => e = .returned (.int .i64 n.a.length) ∧ w = w' := by
  obtain ⟨vq, aq, tq, vc, ac, tc, rfl, rfl, rfl⟩ := h.shape
  obtain ⟨c0, c1, c2, c3, c4, c5, c6⟩ := h.o7
  clear h
  go_enter Tryz.func62, Tryz.ntmps62
  go_wp2
  go_ret
  exact ⟨rfl, rfl⟩

set_option maxHeartbeats 1000000 in
set_option maxRecDepth 100000 in
theorem ghas_is (h : GrS P w p n uv va vt b1 d1 b2 d2) (a : Int) {B : Bool} (hB : n.there a = B) : Calls Tryz.prog 71 #[gp p, .int .i64 a] w fun e w' => e = .returned (.bool B) ∧ w = w' := by
  obtain ⟨vq, aq, tq, vc, ac, tc, rfl, rfl, rfl⟩ := h.shape
  obtain ⟨c0, c1, c2, c3, c4, c5, c6⟩ := h.o7
  clear h
  have HB : Hid (decide (0 ≤ a ∧ a < (n.a.length : Int)) = B) := Lib.hid hB
  clear hB
  go_enter Tryz.func71, Tryz.ntmps71
  go_wp2_with fail
  refine (gamong_is _ _ _ _ HB.out).mono ?_
  rintro e w' ⟨rfl, rfl⟩
  go_wp2_with fail
  go_ret
  exact ⟨rfl, rfl⟩

set_option maxHeartbeats 1000000 in
set_option maxRecDepth 100000 in
theorem gfrom_in (h : GrS P w p n uv va vt b1 d1 b2 d2) (k : Nat) (hk : k < n.a.length) : Calls Tryz.prog 45 #[gp p, .int .i64 k] w fun e w' => e = .returned (.int .i64 n.a[k].1) ∧ w = w' := by
  obtain ⟨vq, aq, tq, vc, ac, tc, rfl, rfl, rfl⟩ := h.shape
  have H := Lib.hid h
  have HA : Hid (n.there k = true) := Lib.hid (there_at hk)
  have hia : (k : Int) < (n.a.length : Int) := by omega
  clear h
  go_enter Tryz.func45, Tryz.ntmps45
  go_wp2_with fail
  refine (ghas_is H.out k HA.out).mono ?_
  rintro e w' ⟨rfl, rfl⟩
  obtain ⟨c0, c1, c2, c3, c4, c5, c6⟩ := H.out.o7
  obtain ⟨b, rfl, hbl, xa, -, -⟩ := H.out.arc hk
  go_wp2_with fail
  go_ret
  exact ⟨rfl, rfl⟩

set_option maxHeartbeats 1000000 in
set_option maxRecDepth 100000 in
theorem gto_in (h : GrS P w p n uv va vt b1 d1 b2 d2) (k : Nat) (hk : k < n.a.length) : Calls Tryz.prog 57 #[gp p, .int .i64 k] w fun e w' => e = .returned (.int .i64 n.a[k].2.1) ∧ w = w' := by
  obtain ⟨vq, aq, tq, vc, ac, tc, rfl, rfl, rfl⟩ := h.shape
  have H := Lib.hid h
  have HA : Hid (n.there k = true) := Lib.hid (there_at hk)
  have hia : (k : Int) < (n.a.length : Int) := by omega
  clear h
  go_enter Tryz.func57, Tryz.ntmps57
  go_wp2_with fail
  refine (ghas_is H.out k HA.out).mono ?_
  rintro e w' ⟨rfl, rfl⟩
  obtain ⟨c0, c1, c2, c3, c4, c5, c6⟩ := H.out.o7
  obtain ⟨b, rfl, hbl, -, xa, -⟩ := H.out.arc hk
  go_wp2_with fail
  go_ret
  exact ⟨rfl, rfl⟩

set_option maxHeartbeats 1000000 in
set_option maxRecDepth 100000 in
theorem gweight_out (h : GrS P w p n uv va vt b1 d1 b2 d2) (a : Int) (ha : n.there a = false) : Calls Tryz.prog 60 #[gp p, .int .i64 a] w fun e w' => e = .returned (.int .i64 (1152921504606846976)) ∧ w = w' := by
  have H := Lib.hid h
  have HA := Lib.hid ha
  clear h ha
  go_enter Tryz.func60, Tryz.ntmps60
  go_wp2_with fail
  refine (ghas_is H.out a HA.out).mono ?_
  rintro e w' ⟨rfl, rfl⟩
  go_wp2_with fail
  go_ret
  exact ⟨rfl, rfl⟩

set_option maxHeartbeats 1000000 in
set_option maxRecDepth 100000 in
theorem gweight_in (h : GrS P w p n uv va vt b1 d1 b2 d2) (k : Nat) (hk : k < n.a.length) : Calls Tryz.prog 60 #[gp p, .int .i64 k] w fun e w' => e = .returned (.int .i64 n.a[k].2.2) ∧ w = w' := by
  obtain ⟨vq, aq, tq, vc, ac, tc, rfl, rfl, rfl⟩ := h.shape
  have H := Lib.hid h
  have HA : Hid (n.there k = true) := Lib.hid (there_at hk)
  have hia : (k : Int) < (n.a.length : Int) := by omega
  clear h
  go_enter Tryz.func60, Tryz.ntmps60
  go_wp2_with fail
  refine (ghas_is H.out k HA.out).mono ?_
  rintro e w' ⟨rfl, rfl⟩
  obtain ⟨c0, c1, c2, c3, c4, c5, c6⟩ := H.out.o7
  obtain ⟨b, rfl, hbl, -, -, xa⟩ := H.out.arc hk
  go_wp2_with fail
  go_ret
  exact ⟨rfl, rfl⟩

end

set_option maxHeartbeats 1000000 in
set_option maxRecDepth 100000 in
theorem sideat_out (b d m k : Nat) (v : Int) (w : World) (hv : ¬ (0 ≤ v ∧ v < (m : Int))) :
    Calls Tryz.prog 70 #[.agg #[.slice (some ⟨b, 0, none⟩) m m, .slice (some ⟨d, 0, none⟩) k k], .int .i64 v] w (IntsPost [] w) := by
  have HV : Hid (decide (0 ≤ v ∧ v < (m : Int)) = false) := Lib.hid (decide_eq_false hv)
  clear hv
  go_enter Tryz.func70, Tryz.ntmps70
  go_wp2_with fail
  refine (gamong_is _ _ _ _ HV.out).mono ?_
  rintro e w' ⟨rfl, rfl⟩
  go_wp2_with fail
  go_ret
  exact ⟨_, rfl, Or.inl ⟨rfl, none, 0, rfl, fun _ => rfl⟩, below_new _⟩

set_option maxHeartbeats 1000000 in
set_option maxRecDepth 100000 in
theorem sideat_in {P : Nat → Prop} {w : World} {b d m k : Nat} {L : Nat → List Int} {f : Nat → Int} (h : SideAt P w b d m k L f) (v : Nat) (hv : v < m) (hl : (L v).length ≤ 100000) :
    Calls Tryz.prog 70 #[.agg #[.slice (some ⟨b, 0, none⟩) m m, .slice (some ⟨d, 0, none⟩) k k], .int .i64 v] w (IntsPost (L v) w) := by
  obtain ⟨us, kb, hm, -, -, -, hr⟩ := h
  have hu : us[v]? = some (us[v]'(by omega)) := List.getElem?_eq_getElem (by omega)
  obtain ⟨r1, -⟩ := hr v _ hu
  obtain ⟨q, c, eu⟩ := r1.shape
  rw [eu] at r1 hu
  have hcell : w.cell? ⟨b, v, none⟩ = some (.slice q (L v).length c) := kb.cell v (by simpa using hu)
  have hq : q = none → (L v).length = 0 := by
    intro e0
    subst e0
    rcases r1 with ⟨e1, _⟩ | ⟨_, _, _, _, _, _, e1, _⟩
    · simp [e1]
    · injection e1 with e1; cases e1
  have HV : Hid (decide (0 ≤ (v : Int) ∧ (v : Int) < (m : Int)) = true) := Lib.hid (by simp; omega)
  have hlt : (v : Int) < (m : Int) := by omega
  have hbl := kb.lt
  have R1 := Lib.hid (r1.below (below_new (.cells #[.slice (some ⟨b, 0, none⟩) m m, .slice (some ⟨d, 0, none⟩) k k] 96)))
  have HC := Lib.hid (keep (below_new (.cells #[.slice (some ⟨b, 0, none⟩) m m, .slice (some ⟨d, 0, none⟩) k k] 96)) hcell)
  obtain ⟨l, el⟩ : ∃ l, l = L v := ⟨_, rfl⟩
  rw [← el] at R1 HC hl hq ⊢
  clear hr hu r1 eu kb hcell el
  go_enter Tryz.func70, Tryz.ntmps70
  go_wp2_with fail
  refine (gamong_is _ _ _ _ HV.out).mono ?_
  rintro e w' ⟨rfl, rfl⟩
  obtain ⟨W0, hW0⟩ := named (w.alloc (.cells #[.slice (some ⟨b, 0, none⟩) m m, .slice (some ⟨d, 0, none⟩) k k] 96))
  have HB : Hid (Below w.heap.size w W0) := by rw [hW0]; exact Lib.hid (below_new _)
  have K0 : Hid (Blk W0 w.heap.size #[.slice (some ⟨b, 0, none⟩) m m, .slice (some ⟨d, 0, none⟩) k k] 96) := by rw [hW0]; exact Lib.hid (Blk.new _ _ _ _ rfl)
  rw [← hW0] at R1 HC ⊢
  clear hW0
  obtain ⟨c0, c1, -, -⟩ := K0.out.o2
  have hc := HC.out
  have hbl' : b < W0.heap.size := World.block_lt_of_cell? W0 _ hc
  go_wp2_with fail
  refine (cloneI q l.length c (l.map (Value.int .i64)) W0 (by simp) R1.out.cells hq hl).mono ?_
  rintro e w2 ⟨v2, rfl, ho, hb⟩
  have HO := Lib.hid (ints_of_owns ho (by omega))
  have HB2 := Lib.hid (HB.out.trans (hb.mono HB.out.size))
  clear ho hb c0 c1 hc
  go_wp2_with fail
  go_ret
  exact ⟨_, rfl, HO.out, HB2.out⟩
section
variable {P : Nat → Prop} {w : World} {p : Nat} {n : NetD} {uv va vt : Value} {b1 d1 b2 d2 : Nat}

set_option maxHeartbeats 1000000 in
set_option maxRecDepth 100000 in
theorem gins_any (h : GrS P w p n uv va vt b1 d1 b2 d2) (hn : GrN n) (v : Int) : Calls Tryz.prog 44 #[gp p, .int .i64 v] w (IntsPost (insL n.a v) w) := by
  obtain ⟨vq, aq, tq, vc, ac, tc, rfl, rfl, rfl⟩ := h.shape
  have hcall : Calls Tryz.prog 70 #[.agg #[.slice (some ⟨b1, 0, none⟩) n.v.length n.v.length, .slice (some ⟨d1, 0, none⟩) n.a.length n.a.length], .int .i64 v] w (IntsPost (insL n.a v) w) := by
    by_cases hv : 0 ≤ v ∧ v < n.v.length
    · obtain ⟨k, rfl⟩ : ∃ k : Nat, v = k := ⟨v.toNat, by omega⟩
      exact sideat_in h.ins k (by omega) (by have := hn.few.a; have := idxFrom_length (fun x => decide (x.2.1 = (k : Int))) 0 n.a; show (idxFrom _ 0 n.a).length ≤ _; omega)
    · rw [ins_none hn.good hv]
      exact sideat_out _ _ _ _ v w hv
  have HC := Lib.hid hcall
  obtain ⟨c0, c1, c2, c3, c4, c5, c6⟩ := h.o7
  clear hcall h
  go_enter Tryz.func44, Tryz.ntmps44
  go_wp2_with fail
  refine HC.out.mono ?_
  rintro e w2 ⟨v2, rfl, ho, hb⟩
  have HO := Lib.hid ho
  have HB := Lib.hid hb
  clear ho hb c0 c1 c2 c3 c4 c5 c6
  go_wp2_with fail
  go_ret
  exact ⟨_, rfl, HO.out, HB.out⟩

set_option maxHeartbeats 1000000 in
set_option maxRecDepth 100000 in
theorem gouts_any (h : GrS P w p n uv va vt b1 d1 b2 d2) (hn : GrN n) (v : Int) : Calls Tryz.prog 56 #[gp p, .int .i64 v] w (IntsPost (outsL n.a v) w) := by
  obtain ⟨vq, aq, tq, vc, ac, tc, rfl, rfl, rfl⟩ := h.shape
  have hcall : Calls Tryz.prog 70 #[.agg #[.slice (some ⟨b2, 0, none⟩) n.v.length n.v.length, .slice (some ⟨d2, 0, none⟩) n.a.length n.a.length], .int .i64 v] w (IntsPost (outsL n.a v) w) := by
    by_cases hv : 0 ≤ v ∧ v < n.v.length
    · obtain ⟨k, rfl⟩ : ∃ k : Nat, v = k := ⟨v.toNat, by omega⟩
      exact sideat_in h.outs k (by omega) (by have := hn.few.a; have := idxFrom_length (fun x => decide (x.1 = (k : Int))) 0 n.a; show (idxFrom _ 0 n.a).length ≤ _; omega)
    · rw [outs_none hn.good hv]
      exact sideat_out _ _ _ _ v w hv
  have HC := Lib.hid hcall
  obtain ⟨c0, c1, c2, c3, c4, c5, c6⟩ := h.o7
  clear hcall h
  go_enter Tryz.func56, Tryz.ntmps56
  go_wp2_with fail
  refine HC.out.mono ?_
  rintro e w2 ⟨v2, rfl, ho, hb⟩
  have HO := Lib.hid ho
  have HB := Lib.hid hb
  clear ho hb c0 c1 c2 c3 c4 c5 c6
  go_wp2_with fail
  go_ret
  exact ⟨_, rfl, HO.out, HB.out⟩
end

end Go.Proofs.YtgihaakgadmidaaGreat

/-
  The program's graph: what it costs to turn.
-/
namespace Go.Proofs.YtgihaakgadmidaaGreat
open Go.RowKit
section
variable {P : Nat → Prop} {w : World} {p : Nat} {n : NetD} {uv va vt : Value} {b1 d1 b2 d2 : Nat}

set_option maxHeartbeats 4000000 in
set_option maxRecDepth 100000 in
theorem gturn_outa (h : GrS P w p n uv va vt b1 d1 b2 d2) (a b : Int) (ha : n.there a = false) : Calls Tryz.prog 46 #[gp p, .int .i64 a, .int .i64 b] w fun e w' => e = .returned (.int .i64 1152921504606846976) ∧ Below w.heap.size w w' := by
  obtain ⟨vq, aq, tq, vc, ac, tc, rfl, rfl, rfl⟩ := h.shape
  have GH := Lib.hid h
  have HA := Lib.hid ha
  clear h ha
  go_enter Tryz.func46, Tryz.ntmps46
  go_wp2_with fail
  have hGS : Grows (fun w' => Below w.heap.size w w') := Grows.below w
  refine' wp_growL _ (fun w' => Below w.heap.size w w') [[], [], [0, 1], [2], [3], [4], [4], [4, 5, 6], [4, 7], [4, 8], [9], [10], [10, 11], [10, 12], [10, 13], [10, 14], [10], [10, 15, 16], [10, 17], [10, 18], [10], [10, 20], [10, 21], [10, 22], [10, 23], [10], [10, 24, 25], [10, 26], [10, 27], [10, 19, 28], [10, 29]] (Fact.lit _ :: Fact.lit _ :: Fact.lit _ :: Fact.lit _ :: Fact.lit _ :: Fact.lit _ :: Fact.lit _ :: Fact.lit _ :: Fact.lit _ :: Fact.lit _ :: Fact.lit _ :: Fact.lit _ :: Fact.lit _ :: Fact.lit _ :: Fact.lit _ :: Fact.lit _ :: Fact.lit _ :: Fact.lit _ :: Fact.lit _ :: Fact.lit _ :: Fact.lit _ :: Fact.lit _ :: Fact.lit _ :: Fact.lit _ :: Fact.lit _ :: Fact.lit _ :: Fact.lit _ :: Fact.lit _ :: Fact.lit _ :: Fact.lit _ :: Fact.lit _ :: []) (by kernel_rfl) rfl (by kernel_rfl) (Below.refl _ _).drew ?seqta
  case' seqta => skip
  iterate 2 ((first | (apply grow_skip; (case hf => rfl); (case hw => rfl)) | (apply grow_lit; (case hf => rfl); (case hw => rfl); (case hrun => (intro w' hS H; clear H; (obtain ⟨c0, c1, c2, c3, c4, c5, c6⟩ := (GH.out.old hS).o7); clear hS; go_simp; first | done | exact rfl)))); (case hc => (simp only [Act.put, List.setIfInBounds_toArray, List.set_cons_zero, List.set_cons_succ]; first | done | exact rfl)); (try (case hj => rfl)))
  (refine' grow_call (u := .bool false) rfl Tryz.func71 (by kernel_rfl) rfl hGS rfl ?wt24 ?run24 ?put24 ?next24; (case wt24 => rfl); (case run24 => (intro w' hS H; exact (ghas_is (GH.out.old hS) a HA.out).mono (fun e w2 h => ⟨h.1, h.2 ▸ Below.refl _ _⟩))); (case put24 => (simp only [Act.put, List.setIfInBounds_toArray, List.set_cons_zero, List.set_cons_succ]; first | done | exact rfl)); (case' next24 => skip))
  iterate 28 ((first | (apply grow_skip; (case hf => rfl); (case hw => rfl)) | (apply grow_lit; (case hf => rfl); (case hw => rfl); (case hrun => (intro w' hS H; clear H; (obtain ⟨c0, c1, c2, c3, c4, c5, c6⟩ := (GH.out.old hS).o7); clear hS; go_simp; first | done | exact rfl)))); (case hc => (simp only [Act.put, List.setIfInBounds_toArray, List.set_cons_zero, List.set_cons_succ]; first | done | exact rfl)); (try (case hj => rfl)))
  intro w1 hb _
  have HB1 := Lib.hid hb
  clear hb hGS
  go_wp2_with fail
  go_ret
  exact ⟨rfl, HB1.out⟩

set_option maxHeartbeats 4000000 in
set_option maxRecDepth 100000 in
theorem gturn_outb (h : GrS P w p n uv va vt b1 d1 b2 d2) (a b : Int) (ha : n.there a = true) (hb : n.there b = false) : Calls Tryz.prog 46 #[gp p, .int .i64 a, .int .i64 b] w fun e w' => e = .returned (.int .i64 1152921504606846976) ∧ Below w.heap.size w w' := by
  obtain ⟨vq, aq, tq, vc, ac, tc, rfl, rfl, rfl⟩ := h.shape
  have GH := Lib.hid h
  have HA := Lib.hid ha
  have HB := Lib.hid hb
  clear h ha hb
  go_enter Tryz.func46, Tryz.ntmps46
  go_wp2_with fail
  have hGS : Grows (fun w' => Below w.heap.size w w') := Grows.below w
  refine' wp_growL _ (fun w' => Below w.heap.size w w') [[], [], [0, 1], [2], [3], [4], [4], [4, 5, 6], [4, 7], [4, 8], [9], [10], [10, 11], [10, 12], [10, 13], [10, 14], [10], [10, 15, 16], [10, 17], [10, 18], [10], [10, 20], [10, 21], [10, 22], [10, 23], [10], [10, 24, 25], [10, 26], [10, 27], [10, 19, 28], [10, 29]] (Fact.lit _ :: Fact.lit _ :: Fact.lit _ :: Fact.lit _ :: Fact.lit _ :: Fact.lit _ :: Fact.lit _ :: Fact.lit _ :: Fact.lit _ :: Fact.lit _ :: Fact.lit _ :: Fact.lit _ :: Fact.lit _ :: Fact.lit _ :: Fact.lit _ :: Fact.lit _ :: Fact.lit _ :: Fact.lit _ :: Fact.lit _ :: Fact.lit _ :: Fact.lit _ :: Fact.lit _ :: Fact.lit _ :: Fact.lit _ :: Fact.lit _ :: Fact.lit _ :: Fact.lit _ :: Fact.lit _ :: Fact.lit _ :: Fact.lit _ :: Fact.lit _ :: []) (by kernel_rfl) rfl (by kernel_rfl) (Below.refl _ _).drew ?seqtb
  case' seqtb => skip
  iterate 2 ((first | (apply grow_skip; (case hf => rfl); (case hw => rfl)) | (apply grow_lit; (case hf => rfl); (case hw => rfl); (case hrun => (intro w' hS H; clear H; (obtain ⟨c0, c1, c2, c3, c4, c5, c6⟩ := (GH.out.old hS).o7); clear hS; go_simp; first | done | exact rfl)))); (case hc => (simp only [Act.put, List.setIfInBounds_toArray, List.set_cons_zero, List.set_cons_succ]; first | done | exact rfl)); (try (case hj => rfl)))
  (refine' grow_call (u := .bool true) rfl Tryz.func71 (by kernel_rfl) rfl hGS rfl ?wt25 ?run25 ?put25 ?next25; (case wt25 => rfl); (case run25 => (intro w' hS H; exact (ghas_is (GH.out.old hS) a HA.out).mono (fun e w2 h => ⟨h.1, h.2 ▸ Below.refl _ _⟩))); (case put25 => (simp only [Act.put, List.setIfInBounds_toArray, List.set_cons_zero, List.set_cons_succ]; first | done | exact rfl)); (case' next25 => skip))
  iterate 4 ((first | (apply grow_skip; (case hf => rfl); (case hw => rfl)) | (apply grow_lit; (case hf => rfl); (case hw => rfl); (case hrun => (intro w' hS H; clear H; (obtain ⟨c0, c1, c2, c3, c4, c5, c6⟩ := (GH.out.old hS).o7); clear hS; go_simp; first | done | exact rfl)))); (case hc => (simp only [Act.put, List.setIfInBounds_toArray, List.set_cons_zero, List.set_cons_succ]; first | done | exact rfl)); (try (case hj => rfl)))
  (refine' grow_call (u := .bool false) rfl Tryz.func71 (by kernel_rfl) rfl hGS rfl ?wt26 ?run26 ?put26 ?next26; (case wt26 => rfl); (case run26 => (intro w' hS H; exact (ghas_is (GH.out.old hS) b HB.out).mono (fun e w2 h => ⟨h.1, h.2 ▸ Below.refl _ _⟩))); (case put26 => (simp only [Act.put, List.setIfInBounds_toArray, List.set_cons_zero, List.set_cons_succ]; first | done | exact rfl)); (case' next26 => skip))
  iterate 23 ((first | (apply grow_skip; (case hf => rfl); (case hw => rfl)) | (apply grow_lit; (case hf => rfl); (case hw => rfl); (case hrun => (intro w' hS H; clear H; (obtain ⟨c0, c1, c2, c3, c4, c5, c6⟩ := (GH.out.old hS).o7); clear hS; go_simp; first | done | exact rfl)))); (case hc => (simp only [Act.put, List.setIfInBounds_toArray, List.set_cons_zero, List.set_cons_succ]; first | done | exact rfl)); (try (case hj => rfl)))
  intro w1 hb _
  have HB1 := Lib.hid hb
  clear hb hGS
  go_wp2_with fail
  go_ret
  exact ⟨rfl, HB1.out⟩

set_option maxHeartbeats 4000000 in
set_option maxRecDepth 100000 in
theorem gturn_ne (h : GrS P w p n uv va vt b1 d1 b2 d2) (ka kb : Nat) (hka : ka < n.a.length) (hkb : kb < n.a.length) (heq : ¬ n.a[ka].2.1 = n.a[kb].1) : Calls Tryz.prog 46 #[gp p, .int .i64 ka, .int .i64 kb] w fun e w' => e = .returned (.int .i64 1152921504606846976) ∧ Below w.heap.size w w' := by
  obtain ⟨vq, aq, tq, vc, ac, tc, rfl, rfl, rfl⟩ := h.shape
  have GH := Lib.hid h
  have HA : Hid (n.there ka = true) := Lib.hid (there_at hka)
  have HB : Hid (n.there kb = true) := Lib.hid (there_at hkb)
  have hia : (ka : Int) < (n.a.length : Int) := by omega
  have hib : (kb : Int) < (n.a.length : Int) := by omega
  obtain ⟨ba, rfl, hbl, -, xa, -⟩ := h.arc hka
  obtain ⟨ba', eb, -, xb, -, -⟩ := h.arc hkb
  cases eb
  have XA := Lib.hid xa
  have XB := Lib.hid xb
  obtain ⟨A, eA⟩ : ∃ A, n.a[ka].2.1 = A := ⟨_, rfl⟩
  obtain ⟨F, eF⟩ : ∃ F, n.a[kb].1 = F := ⟨_, rfl⟩
  rw [eA] at XA heq
  rw [eF] at XB heq
  have hne : (A == F) = false := by simpa using heq
  clear h xa xb eA eF heq hka hkb
  go_enter Tryz.func46, Tryz.ntmps46
  go_wp2_with fail
  have hGS : Grows (fun w' => Below w.heap.size w w') := Grows.below w
  refine' wp_growL _ (fun w' => Below w.heap.size w w') [[], [], [0, 1], [2], [3], [4], [4], [4, 5, 6], [4, 7], [4, 8], [9], [10], [10, 11], [10, 12], [10, 13], [10, 14], [10], [10, 15, 16], [10, 17], [10, 18], [10], [10, 20], [10, 21], [10, 22], [10, 23], [10], [10, 24, 25], [10, 26], [10, 27], [10, 19, 28], [10, 29]] (Fact.lit _ :: Fact.lit _ :: Fact.lit _ :: Fact.lit _ :: Fact.lit _ :: Fact.lit _ :: Fact.lit _ :: Fact.lit _ :: Fact.lit _ :: Fact.lit _ :: Fact.lit _ :: Fact.lit _ :: Fact.lit _ :: Fact.lit _ :: Fact.lit _ :: Fact.lit _ :: Fact.lit _ :: Fact.lit _ :: Fact.lit _ :: Fact.lit _ :: Fact.lit _ :: Fact.lit _ :: Fact.lit _ :: Fact.lit _ :: Fact.lit _ :: Fact.lit _ :: Fact.lit _ :: Fact.lit _ :: Fact.lit _ :: Fact.lit _ :: Fact.lit _ :: []) (by kernel_rfl) rfl (by kernel_rfl) (Below.refl _ _).drew ?seqtn
  case' seqtn => skip
  iterate 2 ((first | (apply grow_skip; (case hf => rfl); (case hw => rfl)) | (apply grow_lit; (case hf => rfl); (case hw => rfl); (case hrun => (intro w' hS H; clear H; (obtain ⟨c0, c1, c2, c3, c4, c5, c6⟩ := (GH.out.old hS).o7); (have x0 := keep hS XA.out); (have x1 := keep hS XB.out); (have hl0 := World.block_lt_of_cell? w' _ x0); clear hS; go_simp; first | done | exact rfl)))); (case hc => (simp only [Act.put, List.setIfInBounds_toArray, List.set_cons_zero, List.set_cons_succ]; first | done | exact rfl)); (try (case hj => rfl)))
  (refine' grow_call (u := .bool true) rfl Tryz.func71 (by kernel_rfl) rfl hGS rfl ?wt27 ?run27 ?put27 ?next27; (case wt27 => rfl); (case run27 => (intro w' hS H; exact (ghas_is (GH.out.old hS) ka HA.out).mono (fun e w2 h => ⟨h.1, h.2 ▸ Below.refl _ _⟩))); (case put27 => (simp only [Act.put, List.setIfInBounds_toArray, List.set_cons_zero, List.set_cons_succ]; first | done | exact rfl)); (case' next27 => skip))
  iterate 4 ((first | (apply grow_skip; (case hf => rfl); (case hw => rfl)) | (apply grow_lit; (case hf => rfl); (case hw => rfl); (case hrun => (intro w' hS H; clear H; (obtain ⟨c0, c1, c2, c3, c4, c5, c6⟩ := (GH.out.old hS).o7); (have x0 := keep hS XA.out); (have x1 := keep hS XB.out); (have hl0 := World.block_lt_of_cell? w' _ x0); clear hS; go_simp; first | done | exact rfl)))); (case hc => (simp only [Act.put, List.setIfInBounds_toArray, List.set_cons_zero, List.set_cons_succ]; first | done | exact rfl)); (try (case hj => rfl)))
  (refine' grow_call (u := .bool true) rfl Tryz.func71 (by kernel_rfl) rfl hGS rfl ?wt28 ?run28 ?put28 ?next28; (case wt28 => rfl); (case run28 => (intro w' hS H; exact (ghas_is (GH.out.old hS) kb HB.out).mono (fun e w2 h => ⟨h.1, h.2 ▸ Below.refl _ _⟩))); (case put28 => (simp only [Act.put, List.setIfInBounds_toArray, List.set_cons_zero, List.set_cons_succ]; first | done | exact rfl)); (case' next28 => skip))
  iterate 23 ((first | (apply grow_skip; (case hf => rfl); (case hw => rfl)) | (apply grow_lit; (case hf => rfl); (case hw => rfl); (case hrun => (intro w' hS H; clear H; (obtain ⟨c0, c1, c2, c3, c4, c5, c6⟩ := (GH.out.old hS).o7); (have x0 := keep hS XA.out); (have x1 := keep hS XB.out); (have hl0 := World.block_lt_of_cell? w' _ x0); clear hS; go_simp; first | done | exact rfl)))); (case hc => (simp only [Act.put, List.setIfInBounds_toArray, List.set_cons_zero, List.set_cons_succ]; first | done | exact rfl)); (try (case hj => rfl)))
  intro w1 hb _
  have HB1 := Lib.hid hb
  clear hb hGS
  go_wp2_with fail
  go_ret
  exact ⟨rfl, HB1.out⟩

set_option maxHeartbeats 4000000 in
set_option maxRecDepth 100000 in
theorem gturn_eq (h : GrS P w p n uv va vt b1 d1 b2 d2) (hn : GrN n) (ka kb : Nat) (hka : ka < n.a.length) (hkb : kb < n.a.length) (heq : n.a[ka].2.1 = n.a[kb].1) : Calls Tryz.prog 46 #[gp p, .int .i64 ka, .int .i64 kb] w fun e w' => e = .returned (.int .i64 (n.turn ka kb)) ∧ Below w.heap.size w w' := by
  obtain ⟨vq, aq, tq, vc, ac, tc, rfl, rfl, rfl⟩ := h.shape
  have GH := Lib.hid h
  have HA : Hid (n.there ka = true) := Lib.hid (there_at hka)
  have HB : Hid (n.there kb = true) := Lib.hid (there_at hkb)
  have hia : (ka : Int) < (n.a.length : Int) := by omega
  have hib : (kb : Int) < (n.a.length : Int) := by omega
  obtain ⟨ba, rfl, hbl, -, xa, -⟩ := h.arc hka
  obtain ⟨ba', eb, -, xb, -, -⟩ := h.arc hkb
  cases eb
  have XA := Lib.hid xa
  have XB := Lib.hid xb
  obtain ⟨A, eA⟩ : ∃ A, n.a[ka].2.1 = A := ⟨_, rfl⟩
  obtain ⟨F, eF⟩ : ∃ F, n.a[kb].1 = F := ⟨_, rfl⟩
  obtain ⟨g0, g1, g2, g3, -⟩ := hn.good.arcs ka hka
  have hfew := hn.few
  obtain ⟨kv, ekv⟩ : ∃ kv : Nat, n.a[ka].2.1 = kv := ⟨n.a[ka].2.1.toNat, by omega⟩
  have hkv : kv < n.v.length := by omega
  obtain ⟨-, -, v0, v1⟩ := hn.good.verts kv hkv
  obtain ⟨kt, ekt⟩ : ∃ kt : Nat, n.v[kv].2.2 = kt := ⟨n.v[kv].2.2.toNat, by omega⟩
  have hkt : kt < n.t.length := by omega
  have hvi : (kv : Int) < (n.v.length : Int) := by omega
  have hti : (kt : Int) < (n.t.length : Int) := by omega
  have hT : turnAt n.t[kt].1 n.t[kt].2.1 n.t[kt].2.2 (inP n ka) (outP n kb) = n.turn ka kb := by
    rw [turn_meet hka hkb heq hkv ekv hkt ekt]
  have hck := hn.good.tabs kt hkt
  have NS := h.net hn
  obtain ⟨bv, ov, rfl, y0, y1, y2⟩ := NS.v.at hkv
  obtain ⟨bt, ot, ut, rfl, z0, z1, z2, hu⟩ := NS.t.at hkt
  obtain ⟨us1, -, -, -, k1, -, -⟩ := h.ins
  obtain ⟨us2, -, -, -, k2, -, -⟩ := h.outs
  have P1 : Hid (w.cell? ⟨d1, ka, none⟩ = some (.int .i64 (inP n ka))) := Lib.hid (k1.cell ka (arrC_at (inP n) hka))
  have P2 : Hid (w.cell? ⟨d2, kb, none⟩ = some (.int .i64 (outP n kb))) := Lib.hid (k2.cell kb (arrC_at (outP n) hkb))
  obtain ⟨PI, ePI⟩ : ∃ x, inP n ka = x := ⟨_, rfl⟩
  obtain ⟨PO, ePO⟩ : ∃ x, outP n kb = x := ⟨_, rfl⟩
  obtain ⟨TN, eTN⟩ : ∃ x, n.turn ka kb = x := ⟨_, rfl⟩
  obtain ⟨V0, eV0⟩ : ∃ x, n.v[kv].1 = x := ⟨_, rfl⟩
  obtain ⟨V1, eV1⟩ : ∃ x, n.v[kv].2.1 = x := ⟨_, rfl⟩
  obtain ⟨T0, eT0⟩ : ∃ x, n.t[kt].1 = x := ⟨_, rfl⟩
  obtain ⟨T1, eT1⟩ : ∃ x, n.t[kt].2.1 = x := ⟨_, rfl⟩
  obtain ⟨TL, eTL⟩ : ∃ x, n.t[kt].2.2 = x := ⟨_, rfl⟩
  rw [ePI] at P1 hT
  rw [ePO] at P2 hT
  rw [eTN] at hT ⊢
  rw [eV0] at y0
  rw [eV1] at y1
  rw [ekt] at y2
  rw [eT0, eT1, eTL] at hT hck
  rw [eT0] at z0
  rw [eT1] at z1
  rw [eTL] at hu
  obtain ⟨qt, ct, rfl⟩ := hu.shape
  obtain ⟨s0, s1, s2, s3, hlen, -⟩ := chkT_ok (I := T0) (O := T1) (l := TL) (by rw [hck])
  have hne : (A == F) = true := by rw [← eA, ← eF, heq]; simp
  have hA : A = kv := by rw [← eA, ekv]
  rw [eA, hA] at XA
  rw [eF] at XB
  have hne' : ((kv : Int) == F) = true := by rw [← hA]; exact hne
  have HT := Lib.hid hT
  have HLN := Lib.hid hlen
  have HS4 := Lib.hid (And.intro s0 (And.intro s1 (And.intro s2 s3)))
  have Y0 := Lib.hid y0
  have Y1 := Lib.hid y1
  have Y2 := Lib.hid y2
  have Z0 := Lib.hid z0
  have Z1 := Lib.hid z1
  have Z2 := Lib.hid z2
  have HU := Lib.hid hu
  clear h xa xb eA eF heq hT hck NS y0 y1 y2 z0 z1 z2 hu k1 k2 ePI ePO eTN eV0 eV1 eT0 eT1 eTL hlen s0 s1 s2 s3 hne hA g0 g1 g2 g3 v0 v1 ekv ekt hfew
  go_enter Tryz.func46, Tryz.ntmps46
  go_wp2_with fail
  have hGS : Grows (fun w' => Below w.heap.size w w') := Grows.below w
  refine' wp_growL _ (fun w' => Below w.heap.size w w') [[], [], [0, 1], [2], [3], [4], [4], [4, 5, 6], [4, 7], [4, 8], [9], [10], [10, 11], [10, 12], [10, 13], [10, 14], [10], [10, 15, 16], [10, 17], [10, 18], [10], [10, 20], [10, 21], [10, 22], [10, 23], [10], [10, 24, 25], [10, 26], [10, 27], [10, 19, 28], [10, 29]] (Fact.lit _ :: Fact.lit _ :: Fact.lit _ :: Fact.lit _ :: Fact.lit _ :: Fact.lit _ :: Fact.lit _ :: Fact.lit _ :: Fact.lit _ :: Fact.lit _ :: Fact.lit _ :: Fact.lit _ :: Fact.lit _ :: Fact.lit _ :: Fact.lit _ :: Fact.lit _ :: Fact.lit _ :: Fact.lit _ :: Fact.lit _ :: Fact.lit _ :: Fact.lit _ :: Fact.lit _ :: Fact.lit _ :: Fact.lit _ :: Fact.lit _ :: Fact.lit _ :: Fact.lit _ :: Fact.lit _ :: Fact.lit _ :: Fact.lit _ :: Fact.lit _ :: []) (by kernel_rfl) rfl (by kernel_rfl) (Below.refl _ _).drew ?seqte
  case' seqte => skip
  iterate 2 ((first | (apply grow_skip; (case hf => rfl); (case hw => rfl)) | (apply grow_lit; (case hf => rfl); (case hw => rfl); (case hrun => (intro w' hS H; clear H; (obtain ⟨c0, c1, c2, c3, c4, c5, c6⟩ := (GH.out.old hS).o7); (have x0 := keep hS XA.out); (have x1 := keep hS XB.out); (have hl0 := World.block_lt_of_cell? w' _ x0); clear hS; go_simp; first | done | exact rfl)))); (case hc => (simp only [Act.put, List.setIfInBounds_toArray, List.set_cons_zero, List.set_cons_succ]; first | done | exact rfl)); (try (case hj => rfl)))
  (refine' grow_call (u := .bool true) rfl Tryz.func71 (by kernel_rfl) rfl hGS rfl ?wt29 ?run29 ?put29 ?next29; (case wt29 => rfl); (case run29 => (intro w' hS H; exact (ghas_is (GH.out.old hS) ka HA.out).mono (fun e w2 h => ⟨h.1, h.2 ▸ Below.refl _ _⟩))); (case put29 => (simp only [Act.put, List.setIfInBounds_toArray, List.set_cons_zero, List.set_cons_succ]; first | done | exact rfl)); (case' next29 => skip))
  iterate 4 ((first | (apply grow_skip; (case hf => rfl); (case hw => rfl)) | (apply grow_lit; (case hf => rfl); (case hw => rfl); (case hrun => (intro w' hS H; clear H; (obtain ⟨c0, c1, c2, c3, c4, c5, c6⟩ := (GH.out.old hS).o7); (have x0 := keep hS XA.out); (have x1 := keep hS XB.out); (have hl0 := World.block_lt_of_cell? w' _ x0); clear hS; go_simp; first | done | exact rfl)))); (case hc => (simp only [Act.put, List.setIfInBounds_toArray, List.set_cons_zero, List.set_cons_succ]; first | done | exact rfl)); (try (case hj => rfl)))
  (refine' grow_call (u := .bool true) rfl Tryz.func71 (by kernel_rfl) rfl hGS rfl ?wt30 ?run30 ?put30 ?next30; (case wt30 => rfl); (case run30 => (intro w' hS H; exact (ghas_is (GH.out.old hS) kb HB.out).mono (fun e w2 h => ⟨h.1, h.2 ▸ Below.refl _ _⟩))); (case put30 => (simp only [Act.put, List.setIfInBounds_toArray, List.set_cons_zero, List.set_cons_succ]; first | done | exact rfl)); (case' next30 => skip))
  iterate 23 ((first | (apply grow_skip; (case hf => rfl); (case hw => rfl)) | (apply grow_lit; (case hf => rfl); (case hw => rfl); (case hrun => (intro w' hS H; clear H; (obtain ⟨c0, c1, c2, c3, c4, c5, c6⟩ := (GH.out.old hS).o7); (have x0 := keep hS XA.out); (have x1 := keep hS XB.out); (have hl0 := World.block_lt_of_cell? w' _ x0); clear hS; go_simp; first | done | exact rfl)))); (case hc => (simp only [Act.put, List.setIfInBounds_toArray, List.set_cons_zero, List.set_cons_succ]; first | done | exact rfl)); (try (case hj => rfl)))
  intro w1 hb _
  have HB1 := Lib.hid hb
  clear hb hGS
  go_wp2_with fail
  have hGS : Grows (fun w' => Below w1.heap.size w1 w') := Grows.below w1
  refine' wp_thenL _ 17 (fun w' => Below w1.heap.size w1 w') [[], [0], [0, 1], [0, 1, 2], [0, 1, 2, 3], [], [5], [5, 6], [5, 6, 7], [5, 6, 7, 8], [], [5, 6, 7, 8, 9, 10], [5, 6, 7, 8, 9, 10, 11], [5, 6, 7, 8, 9, 10, 11, 12], [0, 1, 2, 3, 4, 5, 6, 7, 8, 9, 10, 11, 12, 13], [0, 1, 2, 3, 4, 5, 6, 7, 8, 9, 10, 11, 12, 13, 14], []] (Fact.lit _ :: Fact.lit _ :: Fact.lit _ :: Fact.lit _ :: Fact.lit _ :: Fact.lit _ :: Fact.lit _ :: Fact.lit _ :: Fact.lit _ :: Fact.lit _ :: Fact.lit _ :: Fact.lit _ :: Fact.lit _ :: Fact.lit _ :: Fact.lit _ :: Fact.lit _ :: Fact.fresh _ _ :: []) (by kernel_rfl) rfl (by kernel_rfl) (Below.refl _ _).drew ?seqt3
  case' seqt3 => skip
  iterate 16 ((first | (apply grow_skip; (case hf => rfl); (case hw => rfl)) | (apply grow_lit; (case hf => rfl); (case hw => rfl); (case hrun => (intro w' hS H; clear H; (obtain ⟨c0, c1, c2, c3, c4, c5, c6⟩ := (GH.out.old (HB1.out.trans (hS.mono HB1.out.size))).o7); (have x0 := keep (HB1.out.trans (hS.mono HB1.out.size)) XA.out); (have y0 := keep (HB1.out.trans (hS.mono HB1.out.size)) Y0.out); (have y1 := keep (HB1.out.trans (hS.mono HB1.out.size)) Y1.out); (have y2 := keep (HB1.out.trans (hS.mono HB1.out.size)) Y2.out); (have hl0 := World.block_lt_of_cell? w' _ x0); (have hl1 := World.block_lt_of_cell? w' _ y0); clear hS; go_simp; first | done | exact rfl)))); (case hc => (simp only [Act.put, List.setIfInBounds_toArray, List.set_cons_zero, List.set_cons_succ]; first | done | exact rfl)); (try (case hj => rfl)))
  (refine' grow_fresh (p := PtrC w1 #[.int .i64 0, .int .i64 0, .int .i64 0] 102) (hp := fun v w w' h hb => h.below hb) hGS rfl ?wtt3 ?runt3 ?putt3 ?nextt3; (case wtt3 => rfl); (case runt3 => (intro w' hS H; clear H; refine ⟨.pointer (some ⟨w'.heap.size, 0, none⟩), w'.alloc (.cells #[.int .i64 0, .int .i64 0, .int .i64 0] 102), ?_, ⟨w'.heap.size, rfl, hS.size, Blk.new _ _ _ _ rfl⟩, ⟨w'.heap.size, rfl, Nat.le_refl _, by simp⟩, below_new _⟩; (clear hS; go_simp))); (case putt3 => (intro v; simp only [Act.put, List.setIfInBounds_toArray, List.set_cons_zero, List.set_cons_succ]; first | done | exact rfl)); (case' nextt3 => intro v16))
  intro w2 hb hk
  have q16 : PtrC w1 #[.int .i64 0, .int .i64 0, .int .i64 0] 102 v16 w2 := hk 16 (by decide)
  obtain ⟨bx, rfl, hbx, kx⟩ := q16
  obtain ⟨m0, m1, m2, f0, f1, f2⟩ := kx.o3
  have HB2 := Lib.hid (HB1.out.trans (hb.mono HB1.out.size))
  have hz2 : w.heap.size ≤ bx := Nat.le_trans HB1.out.size hbx
  clear hk hGS
  refine wpAny_ready (rs := [17]) (by kernel_rfl) (by simp) (AllReady.cons rfl (fun K hK => ?_) AllReady.nil)
  go_simp
  refine hK _ _ ?_
  clear hK K
  refine wpAny_done (by kernel_rfl) ?_ _
  clear m0 m1 m2 f0 f1 f2
  obtain ⟨w3, hw3⟩ := named (((w2.setCell ⟨bx, 0, none⟩ (.int .i64 V0)).setCell ⟨bx, 1, none⟩ (.int .i64 V1)).setCell ⟨bx, 2, none⟩ (.int .i64 kt))
  rw [← hw3]
  have KV : Hid (Blk w3 bx #[.int .i64 V0, .int .i64 V1, .int .i64 kt] 102) := by rw [hw3]; exact Lib.hid (by have := ((kx.set 0 (.int .i64 V0)).set 1 (.int .i64 V1)).set 2 (.int .i64 kt); simpa using this)
  have HB3 : Hid (Below w.heap.size w w3) := by rw [hw3]; exact Lib.hid (((HB2.out.setCell hz2 _).setCell hz2 _).setCell hz2 _)
  clear hw3 kx hb HB2
  go_wp2_with fail
  have hGS : Grows (fun w' => Below w3.heap.size w3 w') := Grows.below w3
  refine' wp_growL _ (fun w' => Below w3.heap.size w3 w') [[], [0], [1], [2], [3], [], [5], [4, 6], [7], [], [9], [10], [11], [12], [], [13, 14], [15], [], [17], [18], [19], [20], [], [21, 22], [23], [8, 16, 24], [25]] (Fact.lit _ :: Fact.lit _ :: Fact.lit _ :: Fact.lit _ :: Fact.lit _ :: Fact.lit _ :: Fact.lit _ :: Fact.lit _ :: Fact.lit _ :: Fact.lit _ :: Fact.lit _ :: Fact.lit _ :: Fact.lit _ :: Fact.lit _ :: Fact.lit _ :: Fact.lit _ :: Fact.lit _ :: Fact.lit _ :: Fact.lit _ :: Fact.lit _ :: Fact.lit _ :: Fact.lit _ :: Fact.lit _ :: Fact.lit _ :: Fact.lit _ :: Fact.lit _ :: Fact.lit _ :: []) (by kernel_rfl) rfl (by kernel_rfl) (Below.refl _ _).drew ?seqtf
  case' seqtf => skip
  iterate 25 ((first | (apply grow_skip; (case hf => rfl); (case hw => rfl)) | (apply grow_lit; (case hf => rfl); (case hw => rfl); (case hrun => (intro w' hS H; clear H; (obtain ⟨c0, c1, c2, c3, c4, c5, c6⟩ := (GH.out.old (HB3.out.trans (hS.mono HB3.out.size))).o7); (have p1 := keep (HB3.out.trans (hS.mono HB3.out.size)) P1.out); (have p2 := keep (HB3.out.trans (hS.mono HB3.out.size)) P2.out); (have z0 := keep (HB3.out.trans (hS.mono HB3.out.size)) Z0.out); (have z1 := keep (HB3.out.trans (hS.mono HB3.out.size)) Z1.out); (have z2 := keep (HB3.out.trans (hS.mono HB3.out.size)) Z2.out); (obtain ⟨m0, m1, m2, -, -, -⟩ := (KV.out.keep hS).o3); (have hl0 := World.block_lt_of_cell? w' _ p1); (have hl1 := World.block_lt_of_cell? w' _ p2); (have hl2 := World.block_lt_of_cell? w' _ z0); clear hS; go_simp; first | done | exact rfl)))); (case hc => (simp only [Act.put, List.setIfInBounds_toArray, List.set_cons_zero, List.set_cons_succ]; first | done | exact rfl)); (try (case hj => rfl)))
  (refine' grow_call (u := .int .i64 TN) rfl Tryz.func72 (by kernel_rfl) rfl hGS rfl ?wt31 ?run31 ?put31 ?next31; (case wt31 => rfl); (case run31 => (intro w' hS H; exact tat_is T0 T1 _ TL PI PO TN w' HS4.out HLN.out (HU.out.below (HB3.out.trans (hS.mono HB3.out.size))) HT.out)); (case put31 => (simp only [Act.put, List.setIfInBounds_toArray, List.set_cons_zero, List.set_cons_succ]; first | done | exact rfl)); (case' next31 => skip))
  iterate 1 ((first | (apply grow_skip; (case hf => rfl); (case hw => rfl)) | (apply grow_lit; (case hf => rfl); (case hw => rfl); (case hrun => (intro w' hS H; clear H; (obtain ⟨c0, c1, c2, c3, c4, c5, c6⟩ := (GH.out.old (HB3.out.trans (hS.mono HB3.out.size))).o7); (have p1 := keep (HB3.out.trans (hS.mono HB3.out.size)) P1.out); (have p2 := keep (HB3.out.trans (hS.mono HB3.out.size)) P2.out); (have z0 := keep (HB3.out.trans (hS.mono HB3.out.size)) Z0.out); (have z1 := keep (HB3.out.trans (hS.mono HB3.out.size)) Z1.out); (have z2 := keep (HB3.out.trans (hS.mono HB3.out.size)) Z2.out); (obtain ⟨m0, m1, m2, -, -, -⟩ := (KV.out.keep hS).o3); (have hl0 := World.block_lt_of_cell? w' _ p1); (have hl1 := World.block_lt_of_cell? w' _ p2); (have hl2 := World.block_lt_of_cell? w' _ z0); clear hS; go_simp; first | done | exact rfl)))); (case hc => (simp only [Act.put, List.setIfInBounds_toArray, List.set_cons_zero, List.set_cons_succ]; first | done | exact rfl)); (try (case hj => rfl)))
  intro w4 hb _
  have HB4 := Lib.hid (HB3.out.trans (hb.mono HB3.out.size))
  clear hb hGS
  go_wp2_with fail
  go_ret
  exact ⟨rfl, HB4.out⟩
theorem gturn_any (h : GrS P w p n uv va vt b1 d1 b2 d2) (hn : GrN n) (a b : Int) : Calls Tryz.prog 46 #[gp p, .int .i64 a, .int .i64 b] w fun e w' => e = .returned (.int .i64 (n.turn a b)) ∧ Below w.heap.size w w' := by
  by_cases hm : n.there a = true ∧ n.there b = true ∧ (n.arc a).2.1 = (n.arc b).1
  · obtain ⟨ha, hb, he⟩ := hm
    obtain ⟨ka, rfl, hka⟩ := there_of ha
    obtain ⟨kb, rfl, hkb⟩ := there_of hb
    rw [NetGood.arc_at ka hka, NetGood.arc_at kb hkb] at he
    exact gturn_eq h hn ka kb hka hkb he
  · rw [turn_apart hm]
    cases ha : n.there a with
    | false => exact gturn_outa h a b ha
    | true =>
      cases hb : n.there b with
      | false => exact gturn_outb h a b ha hb
      | true =>
        obtain ⟨ka, rfl, hka⟩ := there_of ha
        obtain ⟨kb, rfl, hkb⟩ := there_of hb
        refine gturn_ne h ka kb hka hkb (fun he => hm ⟨ha, hb, ?_⟩)
        rw [NetGood.arc_at ka hka, NetGood.arc_at kb hkb]
        exact he
end

end Go.Proofs.YtgihaakgadmidaaGreat
