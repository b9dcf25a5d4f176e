/-
  The program's file.Parse: what its loops read.
-/
import Derived.Test.YtjapdbegfanfiaaGreatDoorB9
import Derived.Test.YtjapdbegfanfiaaGreatDoorB14
namespace Go.Proofs.YtjapdbegfanfiaaGreatDoor
open Go.RowKit

theorem RdV.blk {w : World} {lo b a : Nat} {l : List Int} {e : Int} (h : RdV w lo b l a e) : ∃ cs, Blk w b cs 110 := by
  obtain ⟨q, c, x, h⟩ := h
  exact ⟨_, h.blk⟩
def lenV : Value → Nat
  | .slice _ n _ => n
  | _ => 0
/-- Rows that a loop makes: numbers, structs of three, tables. -/
def RwI (B : Nat) (w : World) (v : Value) (L : List Int) : Prop := w.ownsRow B 2 1 v L.length (L.map (Value.int .i64))
def RwT (ty : TypeId) (B : Nat) (w : World) (v : Value) (L : List Tri) : Prop := w.ownsRow B ty 3 v L.length (flatT L)
def RwB (B : Nat) (w : World) (v : Value) (L : List Tab) : Prop := ∃ us, w.ownsRow B 96 3 v L.length (flatB L us) ∧ RowsI w L us
section
variable {w w' : World} {B b : Nat} {v u : Value} {cs : Array Value} {q : Option Addr} {c : Nat}
theorem RwI.nil : RwI B w (.slice none 0 0) [] := World.ownsRow_nil _ _ _ _
theorem RwT.nil {ty : TypeId} : RwT ty B w (.slice none 0 0) [] := World.ownsRow_nil _ _ _ _
theorem RwB.nil : RwB B w (.slice none 0 0) [] := ⟨[], World.ownsRow_nil _ _ _ _, rfl, fun i t u h => by simp at h⟩
theorem RwI.but {L : List Int} (h : RwI B w v L) (_ : Blk w b cs 110) (hb : But b w w') (hlt : b < B) : RwI B w' v L := own_but h hb hlt
theorem RwT.but {ty : TypeId} {L : List Tri} (h : RwT ty B w v L) (hb : But b w w') (hlt : b < B) : RwT ty B w' v L := own_but h hb hlt
theorem RwB.but {L : List Tab} (h : RwB B w v L) (hk : Blk w b cs 110) (hb : But b w w') (hlt : b < B) : RwB B w' v L := by
  obtain ⟨us, h1, h2⟩ := h
  exact ⟨us, own_but h1 hb hlt, h2.map fun _ _ hu => hu.butT hk (by decide) hb⟩
theorem RwI.app {L : List Int} {x : Int} (h : RwI B w (.slice q L.length c) L) (hu : LitI b x u w) (hl : L.length ≤ 100000) (hb : B ≤ w.heap.size) :
    ∃ q' c' w', (Builtin.append_ #[61, 61] 61 #[.slice q L.length c, u]).run Tryz.prog w = .ok (.slice q' (L.length + 1) c') w' ∧ RwI B w' (.slice q' (L.length + 1) c') (L ++ [x]) ∧ Below B w w' := by
  obtain ⟨q', c', w', h1, h2, h3⟩ := appI h hu hl hb
  exact ⟨q', c', w', h1, by unfold RwI; rw [List.length_append]; exact h2, grown_low h h3 hb⟩
theorem RwT.app {ty sl : TypeId} {L : List Tri} {x : Tri} (ht : Tryz.prog.underlying sl = some (.slice ty)) (hinf : (Tryz.prog.info? ty).map (fun i => (i.zero, i.size, i.bytes)) = some (some (.agg #[.int .i64 0, .int .i64 0, .int .i64 0]), 3, 24)) (h : RwT ty B w (.slice q L.length c) L) (hu : LitT ty x u w) (hl : L.length ≤ 100000) (hb : B ≤ w.heap.size) :
    ∃ q' c' w', (Builtin.append_ #[sl, sl] sl #[.slice q L.length c, u]).run Tryz.prog w = .ok (.slice q' (L.length + 1) c') w' ∧ RwT ty B w' (.slice q' (L.length + 1) c') (L ++ [x]) ∧ Below B w w' := by
  obtain ⟨q', c', w', h1, h2, h3⟩ := app3 ht hinf h hu hl hb
  exact ⟨q', c', w', h1, by unfold RwT; rw [List.length_append]; exact h2, grown_low h h3 hb⟩
theorem RwB.app {L : List Tab} {x : Tab} (h : RwB B w (.slice q L.length c) L) (hu : LitB x.1 x.2.1 x.2.2 u w) (hl : L.length ≤ 100000) (hb : B ≤ w.heap.size) :
    ∃ q' c' w', (Builtin.append_ #[26, 26] 26 #[.slice q L.length c, u]).run Tryz.prog w = .ok (.slice q' (L.length + 1) c') w' ∧ RwB B w' (.slice q' (L.length + 1) c') (L ++ [x]) ∧ Below B w w' := by
  obtain ⟨us, h, hr⟩ := h
  obtain ⟨q', c', w', y, h1, h2, h3, h4⟩ := appB h hr.1 hu hl hb
  exact ⟨q', c', w', h1, ⟨us ++ [y], by rw [List.length_append]; exact h2, (hr.map fun _ _ hu => hu.grown h (by decide) h3).snoc (h4.grown h (by decide) h3)⟩, grown_low h h3 hb⟩
end
theorem own_below8 {w w' : World} {B size n : Nat} {e : TypeId} {v : Value} {xs : List Value} (h : w.ownsRow B e size v n xs) (hb : Below w.heap.size w w') : w'.ownsRow B e size v n xs := by
  refine ⟨h.1, ?_⟩
  rcases h.2 with h0 | ⟨g, cap, cur, h1, h2, h3, h4⟩
  · exact Or.inl h0
  · exact Or.inr ⟨g, cap, cur, h1, h2, (hb.block g (Array.getElem?_eq_some_iff.1 h3).1).trans h3, h4⟩
theorem RwI.low2 {w w' : World} {B : Nat} {v : Value} {L : List Int} (h : RwI B w v L) (hb : Below w.heap.size w w') : RwI B w' v L := own_below8 h hb
theorem RwT.low2 {ty : TypeId} {w w' : World} {B : Nat} {v : Value} {L : List Tri} (h : RwT ty B w v L) (hb : Below w.heap.size w w') : RwT ty B w' v L := own_below8 h hb
theorem RwB.low2 {w w' : World} {B : Nat} {v : Value} {L : List Tab} (h : RwB B w v L) (hb : Below w.heap.size w w') : RwB B w' v L := by
  obtain ⟨us, h1, h2⟩ := h
  exact ⟨us, own_below8 h1 hb, h2.map fun _ _ hu => hu.below hb⟩
theorem goK_more {σ α : Type} {er : σ → Int} {f : σ → α × σ} {s : σ} {G : Nat → List α × σ} (hG : goK er f s = G) {k : Nat} {l : List α} {s1 s2 : σ} {x : α} (hk : G k = (l, s1)) (he : er s1 = 0) (hf : f s1 = (x, s2)) : G (k + 1) = (l ++ [x], s2) := by
  subst hG
  rw [goK_step (by rw [hk]; exact he), hk]
  simp only [hf]
theorem goK_end {σ α : Type} {er : σ → Int} {f : σ → α × σ} {s : σ} {G : Nat → List α × σ} (hG : goK er f s = G) {k N : Nat} (hN : k ≤ N) (h : ¬ (k < N ∧ er (G k).2 = 0)) : G N = G k := by
  subst hG
  by_cases h1 : k < N
  · have := goK_stop (er := er) (f := f) (s := s) (k := k) (fun h0 => h ⟨h1, h0⟩) (N - k)
    rwa [show k + (N - k) = N by omega] at this
  · rw [show N = k by omega]

/-- What a loop of reads answers. -/
def ManyI (G : List Int × RSt) (w : World) (lo b : Nat) (l : List Int) (ev : Ending) (w' : World) : Prop :=
  ∃ q c, ev = .returned (.slice q G.1.length c) ∧ RwI w.heap.size w' (.slice q G.1.length c) G.1 ∧ RdV w' lo b l G.2.1 G.2.2 ∧ But b w w'
set_option maxRecDepth 100000 in
set_option maxHeartbeats 4000000 in
theorem manyI {w : World} {lo b a : Nat} {l : List Int} {e : Int} (h : RdV w lo b l a e) (N : Nat) (hN : N ≤ 256) :
    Calls Tryz.prog 84 #[rp b, .int .i64 N, .func (.func 85) #[] #[]] w (ManyI (goK erS (rdC l) (a, e) N) w lo b l) := by
  obtain ⟨G, hG⟩ : ∃ G, goK erS (rdC l) (a, e) = G := ⟨_, rfl⟩
  rw [hG]
  have hlt := h.lt.2.1
  have hs : Hid (RdV w lo b l (G 0).2.1 (G 0).2.2 ∧ RwI w.heap.size w (.slice none 0 0) (G 0).1 ∧ (G 0).1.length = 0 ∧ But b w w) := by
    rw [← hG]
    exact Lib.hid ⟨h, RwI.nil, rfl, But.refl _ _⟩
  have HG := Lib.hid hG
  clear h hG
  go_enter Tryz.func84, Tryz.ntmps84
  go_wp2_with fail
  go_loopw [7] (fun lv wr => ∃ (k : Nat) (q : Option Addr) (c : Nat), k ≤ N ∧ lv = .slice q k c ∧ Hid (RdV wr lo b l (G k).2.1 (G k).2.2 ∧ RwI w.heap.size wr (.slice q k c) (G k).1 ∧ (G k).1.length = k ∧ But b w wr)) (fun lv _ => N - lenV lv)
  case atStart => exact ⟨0, none, 0, Nat.zero_le _, rfl, hs⟩
  case round =>
    clear hs
    obtain ⟨k, q, c, hk, rfl, HS⟩ := hrel
    have hsz := HS.out.2.2.2.size
    by_cases hgo : k < N ∧ (G k).2.2 = 0
    · obtain ⟨hk1, he0⟩ := hgo
      have hki : (k : Int) < N := by omega
      obtain ⟨Gl, Ga, Ge, hGk⟩ : ∃ Gl Ga Ge, G k = (Gl, Ga, Ge) := ⟨_, _, _, rfl⟩
      rw [hGk] at HS he0
      simp only at HS he0
      subst he0
      obtain ⟨X, na, ne, hX⟩ : ∃ X na ne, rdC l (Ga, 0) = (X, na, ne) := ⟨_, _, _, rfl⟩
      have HGS := Lib.hid (goK_more HG.out hGk rfl hX)
      have HXX := Lib.hid hX
      have HR0 := Lib.hid HS.out.1
      have HL := Lib.hid HS.out.2.2.1
      clear hGk hX
      go_wp2_with fail
      refine (vErr0 HR0.out).mono ?_
      rintro ev w1 ⟨rfl, hb⟩
      have HR1 := Lib.hid (HR0.out.below hb)
      have HO1 : Hid (RwI w.heap.size w1 (.slice q k c) Gl) := by
        obtain ⟨cs, hkb⟩ := HR0.out.blk
        exact Lib.hid (HS.out.2.1.but hkb (But.of_below hb) hlt)
      have HB1 := Lib.hid (HS.out.2.2.2.trans (But.of_below hb))
      clear hb HR0 HS
      go_wp2_with fail
      refine (vCostP HR1.out HXX.out).mono ?_
      rintro ev w2 ⟨rfl, hr, hb⟩
      have HO2 : Hid (RwI w.heap.size w2 (.slice q k c) Gl) := by
        obtain ⟨cs, hkb⟩ := HR1.out.blk
        exact Lib.hid (HO1.out.but hkb hb hlt)
      have HB2 := Lib.hid (HB1.out.trans hb)
      have hsz2 := HB2.out.size
      have HR2 := Lib.hid hr
      obtain ⟨W2, hW2⟩ := named (w2.alloc (.cells #[.int .i64 X] 2))
      have hbw : Below w2.heap.size w2 W2 := by rw [hW2]; exact below_new8 _
      have HOW : RwI w.heap.size W2 (.slice q Gl.length c) Gl := by rw [HL.out]; exact HO2.out.low2 hbw
      have HLT : LitI b X (.slice (some ⟨w2.heap.size, 0, none⟩) 1 1) W2 := by rw [hW2]; exact ⟨_, rfl, by omega, Blk.new _ _ _ _ rfl⟩
      obtain ⟨q2, c2, w3, hrun, ho3, hb3⟩ := RwI.app HOW HLT (by rw [HL.out]; omega) (by have := hbw.size; omega)
      have hl3 := (hbw.mono (Nat.le_refl _))
      have hbx : Below w.heap.size w2 w3 := (hbw.mono hsz2).trans hb3
      have HRUN := Lib.hid hrun
      have HN : Hid (RdV w3 lo b l na ne ∧ RwI w.heap.size w3 (.slice q2 (k + 1) c2) (Gl ++ [X]) ∧ But b w w3) := Lib.hid ⟨HR2.out.low hbx hlt, by rw [← HL.out]; exact ho3, HB2.out.on hbx (Nat.le_refl _)⟩
      rw [HL.out] at HRUN
      rw [hW2] at HRUN
      clear hr hb hW2 hbw hrun ho3 hb3 hl3 hbx HO1 HB1 HR1 HO2 HB2 HR2
      go_wp2_with (at_builtin; refine wpList_append_run rfl _ _ 61 rfl _ _ _ rfl rfl HRUN.out ?_)
      go_roundw
      case rel => exact ⟨k + 1, q2, c2, by omega, rfl, by rw [HGS.out]; exact Lib.hid ⟨HN.out.1, HN.out.2.1, by rw [List.length_append, HL.out]; rfl, HN.out.2.2⟩⟩
      case measure => simp [lenV]; omega
    · have hfin : G N = G k := goK_end HG.out hk hgo
      have HP : Hid (∃ q' c', Value.slice q k c = .slice q' (G N).1.length c' ∧ RwI w.heap.size wr (.slice q' (G N).1.length c') (G N).1 ∧ RdV wr lo b l (G N).2.1 (G N).2.2 ∧ But b w wr) := by
        rw [hfin]
        exact Lib.hid ⟨q, c, by rw [HS.out.2.2.1], by rw [HS.out.2.2.1]; exact HS.out.2.1, HS.out.1, HS.out.2.2.2⟩
      by_cases h1 : k < N
      · have he : ¬ (G k).2.2 = 0 := fun h => hgo ⟨h1, h⟩
        have hki : (k : Int) < N := by omega
        have HE := Lib.hid he
        clear hgo hfin he
        go_wp2_with fail
        refine (vErr HS.out.1 HE.out).mono ?_
        rintro ev w1 ⟨v, rfl, ⟨-, kk, rfl⟩, hb⟩
        have HP1 : Hid (ManyI (G N) w lo b l (.returned (.slice q k c)) w1) := by
          obtain ⟨cs, hkb⟩ := HS.out.1.blk
          obtain ⟨q', c', e1, h2, h3, h4⟩ := HP.out
          exact Lib.hid ⟨q', c', by rw [e1], by obtain ⟨cs, hkb⟩ := h3.blk; exact h2.but hkb (But.of_below hb) hlt, h3.below hb, h4.trans (But.of_below hb)⟩
        clear hb HP HS HE
        go_wp2_with fail
        go_ret
        exact HP1.out
      · have hki : ¬ (k : Int) < N := by omega
        have HP1 : Hid (ManyI (G N) w lo b l (.returned (.slice q k c)) wr) := by
          obtain ⟨q', c', e1, h2, h3, h4⟩ := HP.out
          exact Lib.hid ⟨q', c', by rw [e1], h2, h3, h4⟩
        clear hgo hfin HP HS
        go_wp2_with fail
        go_ret
        exact HP1.out

end Go.Proofs.YtjapdbegfanfiaaGreatDoor

/-
  The program's file.Parse: a table, rows of tables and of arcs.
-/
namespace Go.Proofs.YtjapdbegfanfiaaGreatDoor
open Go.RowKit

theorem RwI.low3 {w : World} {B B' : Nat} {v : Value} {L : List Int} (h : RwI B w v L) (hb : B' ≤ B) : RwI B' w v L := by
  refine ⟨h.1, ?_⟩
  rcases h.2 with h0 | ⟨g, cap, cur, h1, h2, h3⟩
  · exact Or.inl h0
  · exact Or.inr ⟨g, cap, cur, h1, Nat.le_trans hb h2, h3⟩
set_option maxRecDepth 100000 in
set_option maxHeartbeats 4000000 in
theorem vType {w : World} {lo b a a' : Nat} {l : List Int} {e e' : Int} {X : Tab} (h : RdV w lo b l a e) (hr : rdT l (a, e) = (X, a', e')) :
    Calls Tryz.prog 55 #[rp b] w fun ev w' => ∃ v, ev = .returned v ∧ TabOwn w.heap.size w' v X ∧ RdV w' lo b l a' e' ∧ But b w w' := by
  have hblt := h.lt.2.1
  have h8 := h.in8
  obtain ⟨I, s1a, s1e, h1⟩ : ∃ I a1 e1, rdU l 16 (a, e) = (I, a1, e1) := ⟨_, _, _, rfl⟩
  obtain ⟨O, s2a, s2e, h2⟩ : ∃ O a1 e1, rdU l 16 (s1a, s1e) = (O, a1, e1) := ⟨_, _, _, rfl⟩
  have hI := uintR_in h8 a e 16 (by omega)
  have hO := uintR_in h8 s1a s1e 16 (by omega)
  have hu1 : uintR l a e 16 = (I, s1a, s1e) := h1
  have hu2 : uintR l s1a s1e 16 = (O, s2a, s2e) := h2
  rw [hu1] at hI
  rw [hu2] at hO
  have hI' : 0 ≤ I ∧ I ≤ 16 := hI
  have hO' : 0 ≤ O ∧ O ≤ 16 := hO
  obtain ⟨N, hN⟩ : ∃ N : Nat, I * O = N := ⟨(I * O).toNat, by have := Int.mul_nonneg hI'.1 hO'.1; omega⟩
  have hN256 : N ≤ 256 := by
    have h1 : I * O ≤ 16 * 16 := Int.mul_le_mul hI'.2 hO'.2 hO'.1 (by omega)
    omega
  obtain ⟨R, hR⟩ : ∃ R, goK erS (rdC l) (s2a, s2e) N = R := ⟨_, rfl⟩
  have ht : rdT l (a, e) = ((I, O, R.1), R.2) := by
    unfold rdT
    simp only [h1, h2, hN, Int.toNat_natCast, hR]
  rw [hr] at ht
  injection ht with ht1 ht2
  subst ht1
  have HT2 := Lib.hid ht2
  have HRR := Lib.hid hR
  have hwN : IntKind.i64.wrap (I * O) = N := by rw [hN]; simp [IntKind.wrap, IntKind.bits, IntKind.signed]; omega
  have HH := Lib.hid (h.below (below_new8 (.cells #[.int .i64 0, .int .i64 0, .slice none 0 0] 96)))
  have HB0 : Hid (But b w (w.alloc (.cells #[.int .i64 0, .int .i64 0, .slice none 0 0] 96))) := Lib.hid (But.of_below (below_new8 _))
  have HK0 : Hid (Blk (w.alloc (.cells #[.int .i64 0, .int .i64 0, .slice none 0 0] 96)) w.heap.size #[.int .i64 0, .int .i64 0, .slice none 0 0] 96) := Lib.hid (Blk.new _ _ _ _ rfl)
  clear h h8 hI hO h1 h2 hr ht2 hR hN hI' hO'
  go_enter Tryz.func55, Tryz.ntmps55
  go_wp2_with fail
  refine (vPlain HH.out hu1 (by omega) (by omega)).mono ?_
  rintro ev w1 ⟨rfl, h1, hb⟩
  have HR1 := Lib.hid h1
  have HB1 := Lib.hid (HB0.out.trans hb)
  have HK1 := Lib.hid (hb.blk HK0.out (by omega))
  clear h1 hb HH hu1 HB0 HK0
  go_wp2_with fail
  refine (vPlain HR1.out hu2 (by omega) (by omega)).mono ?_
  rintro ev w2 ⟨rfl, h1, hb⟩
  have HR2 := Lib.hid h1
  have HB2 := Lib.hid (HB1.out.trans hb)
  have HK2 := Lib.hid (hb.blk HK1.out (by omega))
  have hsz2 := HB2.out.size
  clear h1 hb HR1 hu2 HB1 HK1
  go_wp2_with fail
  refine (manyI HR2.out N hN256).mono ?_
  rintro ev w3 ⟨q, c, rfl, ho, hr3, hb⟩
  rw [HRR.out] at ho hr3
  rw [HRR.out]
  have HB3 := Lib.hid (HB2.out.trans hb)
  have HK3 := Lib.hid (hb.blk HK2.out (by omega))
  obtain ⟨r0, r1, r2, g0, g1, g2⟩ := HK3.out.o3
  have HF : Hid (TabOwn w.heap.size (((w3.setCell ⟨w.heap.size, 0, none⟩ (.int .i64 I)).setCell ⟨w.heap.size, 1, none⟩ (.int .i64 O)).setCell ⟨w.heap.size, 2, none⟩ (.slice q R.1.length c)) (.agg #[.int .i64 I, .int .i64 O, .slice q R.1.length c]) (I, O, R.1) ∧ RdV (((w3.setCell ⟨w.heap.size, 0, none⟩ (.int .i64 I)).setCell ⟨w.heap.size, 1, none⟩ (.int .i64 O)).setCell ⟨w.heap.size, 2, none⟩ (.slice q R.1.length c)) lo b l a' e' ∧ But b w (((w3.setCell ⟨w.heap.size, 0, none⟩ (.int .i64 I)).setCell ⟨w.heap.size, 1, none⟩ (.int .i64 O)).setCell ⟨w.heap.size, 2, none⟩ (.slice q R.1.length c))) := by
    have hx : Below w.heap.size w3 (((w3.setCell ⟨w.heap.size, 0, none⟩ (.int .i64 I)).setCell ⟨w.heap.size, 1, none⟩ (.int .i64 O)).setCell ⟨w.heap.size, 2, none⟩ (.slice q R.1.length c)) := by
      iterate 3 (refine Below.setCell ?_ (by simp only []; omega) _)
      exact Below.refl _ _
    have k1 := HK3.out.set 0 (.int .i64 I)
    have k2 := k1.set 1 (.int .i64 O)
    have o1 := owns_set (owns_set (owns_set (RwI.low3 ho hsz2) HK3.out (by decide) 0 (.int .i64 I)) k1 (by decide) 1 (.int .i64 O)) k2 (by decide) 2 (.slice q R.1.length c)
    have hr4 := hr3.low hx hblt
    rw [← HT2.out] at hr4
    exact Lib.hid ⟨⟨_, rfl, o1⟩, hr4, HB3.out.on hx (Nat.le_refl _)⟩
  clear ho hr3 hb HR2 HB2 HK2 HB3 HK3
  go_wp2_with fail
  exact bodyPost_ret (v := .agg #[.int .i64 I, .int .i64 O, .slice q R.1.length c]) (by simp [results, Tryz.results55, go_sem]; go_simp) rfl ⟨_, rfl, HF.out⟩

/-- What a loop of reads answers. -/
def ManyA (G : List Tri × RSt) (w : World) (lo b : Nat) (l : List Int) (ev : Ending) (w' : World) : Prop :=
  ∃ q c, ev = .returned (.slice q G.1.length c) ∧ RwT 94 w.heap.size w' (.slice q G.1.length c) G.1 ∧ RdV w' lo b l G.2.1 G.2.2 ∧ But b w w'
set_option maxRecDepth 100000 in
set_option maxHeartbeats 4000000 in
theorem manyA {w : World} {lo b a : Nat} {l : List Int} {e : Int} (h : RdV w lo b l a e) (N : Nat) (hN : N ≤ 16384) :
    Calls Tryz.prog 57 #[rp b, .int .i64 N, .func (.func 58) #[] #[]] w (ManyA (goK erS (rdA l) (a, e) N) w lo b l) := by
  obtain ⟨G, hG⟩ : ∃ G, goK erS (rdA l) (a, e) = G := ⟨_, rfl⟩
  rw [hG]
  have hlt := h.lt.2.1
  have hs : Hid (RdV w lo b l (G 0).2.1 (G 0).2.2 ∧ RwT 94 w.heap.size w (.slice none 0 0) (G 0).1 ∧ (G 0).1.length = 0 ∧ But b w w) := by
    rw [← hG]
    exact Lib.hid ⟨h, RwT.nil, rfl, But.refl _ _⟩
  have HG := Lib.hid hG
  clear h hG
  go_enter Tryz.func57, Tryz.ntmps57
  go_wp2_with fail
  go_loopw [7] (fun lv wr => ∃ (k : Nat) (q : Option Addr) (c : Nat), k ≤ N ∧ lv = .slice q k c ∧ Hid (RdV wr lo b l (G k).2.1 (G k).2.2 ∧ RwT 94 w.heap.size wr (.slice q k c) (G k).1 ∧ (G k).1.length = k ∧ But b w wr)) (fun lv _ => N - lenV lv)
  case atStart => exact ⟨0, none, 0, Nat.zero_le _, rfl, hs⟩
  case round =>
    clear hs
    obtain ⟨k, q, c, hk, rfl, HS⟩ := hrel
    have hsz := HS.out.2.2.2.size
    by_cases hgo : k < N ∧ (G k).2.2 = 0
    · obtain ⟨hk1, he0⟩ := hgo
      have hki : (k : Int) < N := by omega
      obtain ⟨Gl, Ga, Ge, hGk⟩ : ∃ Gl Ga Ge, G k = (Gl, Ga, Ge) := ⟨_, _, _, rfl⟩
      rw [hGk] at HS he0
      simp only at HS he0
      subst he0
      obtain ⟨X, na, ne, hX⟩ : ∃ X na ne, rdA l (Ga, 0) = (X, na, ne) := ⟨_, _, _, rfl⟩
      have HGS := Lib.hid (goK_more HG.out hGk rfl hX)
      have HXX := Lib.hid hX
      have HR0 := Lib.hid HS.out.1
      have HL := Lib.hid HS.out.2.2.1
      clear hGk hX
      go_wp2_with fail
      refine (vErr0 HR0.out).mono ?_
      rintro ev w1 ⟨rfl, hb⟩
      have HR1 := Lib.hid (HR0.out.below hb)
      have HO1 : Hid (RwT 94 w.heap.size w1 (.slice q k c) Gl) := by
        obtain ⟨cs, hkb⟩ := HR0.out.blk
        exact Lib.hid (HS.out.2.1.but (But.of_below hb) hlt)
      have HB1 := Lib.hid (HS.out.2.2.2.trans (But.of_below hb))
      clear hb HR0 HS
      go_wp2_with fail
      refine (vArc HR1.out HXX.out).mono ?_
      rintro ev w2 ⟨rfl, hr, hb⟩
      have HO2 : Hid (RwT 94 w.heap.size w2 (.slice q k c) Gl) := by
        obtain ⟨cs, hkb⟩ := HR1.out.blk
        exact Lib.hid (HO1.out.but hb hlt)
      have HB2 := Lib.hid (HB1.out.trans hb)
      have hsz2 := HB2.out.size
      have HR2 := Lib.hid hr
      obtain ⟨W2, hW2⟩ := named (w2.alloc (.cells #[.int .i64 X.1, .int .i64 X.2.1, .int .i64 X.2.2] 94))
      have hbw : Below w2.heap.size w2 W2 := by rw [hW2]; exact below_new8 _
      have HOW : RwT 94 w.heap.size W2 (.slice q Gl.length c) Gl := by rw [HL.out]; exact HO2.out.low2 hbw
      have HLT : LitT 94 X (.slice (some ⟨w2.heap.size, 0, none⟩) 1 1) W2 := by rw [hW2]; exact ⟨_, rfl, Blk.new _ _ _ _ rfl⟩
      obtain ⟨q2, c2, w3, hrun, ho3, hb3⟩ := RwT.app Tryz.underlying25 infoArc HOW HLT (by rw [HL.out]; omega) (by have := hbw.size; omega)
      have hl3 := (hbw.mono (Nat.le_refl _))
      have hbx : Below w.heap.size w2 w3 := (hbw.mono hsz2).trans hb3
      have HRUN := Lib.hid hrun
      have HN : Hid (RdV w3 lo b l na ne ∧ RwT 94 w.heap.size w3 (.slice q2 (k + 1) c2) (Gl ++ [X]) ∧ But b w w3) := Lib.hid ⟨HR2.out.low hbx hlt, by rw [← HL.out]; exact ho3, HB2.out.on hbx (Nat.le_refl _)⟩
      rw [HL.out] at HRUN
      rw [hW2] at HRUN
      clear hr hb hW2 hbw hrun ho3 hb3 hl3 hbx HO1 HB1 HR1 HO2 HB2 HR2
      go_wp2_with (at_builtin; refine wpList_append_run rfl _ _ 25 rfl _ _ _ rfl rfl HRUN.out ?_)
      go_roundw
      case rel => exact ⟨k + 1, q2, c2, by omega, rfl, by rw [HGS.out]; exact Lib.hid ⟨HN.out.1, HN.out.2.1, by rw [List.length_append, HL.out]; rfl, HN.out.2.2⟩⟩
      case measure => simp [lenV]; omega
    · have hfin : G N = G k := goK_end HG.out hk hgo
      have HP : Hid (∃ q' c', Value.slice q k c = .slice q' (G N).1.length c' ∧ RwT 94 w.heap.size wr (.slice q' (G N).1.length c') (G N).1 ∧ RdV wr lo b l (G N).2.1 (G N).2.2 ∧ But b w wr) := by
        rw [hfin]
        exact Lib.hid ⟨q, c, by rw [HS.out.2.2.1], by rw [HS.out.2.2.1]; exact HS.out.2.1, HS.out.1, HS.out.2.2.2⟩
      by_cases h1 : k < N
      · have he : ¬ (G k).2.2 = 0 := fun h => hgo ⟨h1, h⟩
        have hki : (k : Int) < N := by omega
        have HE := Lib.hid he
        clear hgo hfin he
        go_wp2_with fail
        refine (vErr HS.out.1 HE.out).mono ?_
        rintro ev w1 ⟨v, rfl, ⟨-, kk, rfl⟩, hb⟩
        have HP1 : Hid (ManyA (G N) w lo b l (.returned (.slice q k c)) w1) := by
          obtain ⟨cs, hkb⟩ := HS.out.1.blk
          obtain ⟨q', c', e1, h2, h3, h4⟩ := HP.out
          exact Lib.hid ⟨q', c', by rw [e1], h2.but (But.of_below hb) hlt, h3.below hb, h4.trans (But.of_below hb)⟩
        clear hb HP HS HE
        go_wp2_with fail
        go_ret
        exact HP1.out
      · have hki : ¬ (k : Int) < N := by omega
        have HP1 : Hid (ManyA (G N) w lo b l (.returned (.slice q k c)) wr) := by
          obtain ⟨q', c', e1, h2, h3, h4⟩ := HP.out
          exact Lib.hid ⟨q', c', by rw [e1], h2, h3, h4⟩
        clear hgo hfin HP HS
        go_wp2_with fail
        go_ret
        exact HP1.out

/-- What a loop of reads answers. -/
def ManyB (G : List Tab × RSt) (w : World) (lo b : Nat) (l : List Int) (ev : Ending) (w' : World) : Prop :=
  ∃ q c, ev = .returned (.slice q G.1.length c) ∧ RwB w.heap.size w' (.slice q G.1.length c) G.1 ∧ RdV w' lo b l G.2.1 G.2.2 ∧ But b w w'
set_option maxRecDepth 100000 in
set_option maxHeartbeats 4000000 in
theorem manyB {w : World} {lo b a : Nat} {l : List Int} {e : Int} (h : RdV w lo b l a e) (N : Nat) (hN : N ≤ 256) :
    Calls Tryz.prog 54 #[rp b, .int .i64 N, .func (.func 55) #[] #[]] w (ManyB (goK erS (rdT l) (a, e) N) w lo b l) := by
  obtain ⟨G, hG⟩ : ∃ G, goK erS (rdT l) (a, e) = G := ⟨_, rfl⟩
  rw [hG]
  have hlt := h.lt.2.1
  have hs : Hid (RdV w lo b l (G 0).2.1 (G 0).2.2 ∧ RwB w.heap.size w (.slice none 0 0) (G 0).1 ∧ (G 0).1.length = 0 ∧ But b w w) := by
    rw [← hG]
    exact Lib.hid ⟨h, RwB.nil, rfl, But.refl _ _⟩
  have HG := Lib.hid hG
  clear h hG
  go_enter Tryz.func54, Tryz.ntmps54
  go_wp2_with fail
  go_loopw [7] (fun lv wr => ∃ (k : Nat) (q : Option Addr) (c : Nat), k ≤ N ∧ lv = .slice q k c ∧ Hid (RdV wr lo b l (G k).2.1 (G k).2.2 ∧ RwB w.heap.size wr (.slice q k c) (G k).1 ∧ (G k).1.length = k ∧ But b w wr)) (fun lv _ => N - lenV lv)
  case atStart => exact ⟨0, none, 0, Nat.zero_le _, rfl, hs⟩
  case round =>
    clear hs
    obtain ⟨k, q, c, hk, rfl, HS⟩ := hrel
    have hsz := HS.out.2.2.2.size
    by_cases hgo : k < N ∧ (G k).2.2 = 0
    · obtain ⟨hk1, he0⟩ := hgo
      have hki : (k : Int) < N := by omega
      obtain ⟨Gl, Ga, Ge, hGk⟩ : ∃ Gl Ga Ge, G k = (Gl, Ga, Ge) := ⟨_, _, _, rfl⟩
      rw [hGk] at HS he0
      simp only at HS he0
      subst he0
      obtain ⟨X, na, ne, hX⟩ : ∃ X na ne, rdT l (Ga, 0) = (X, na, ne) := ⟨_, _, _, rfl⟩
      have HGS := Lib.hid (goK_more HG.out hGk rfl hX)
      have HXX := Lib.hid hX
      have HR0 := Lib.hid HS.out.1
      have HL := Lib.hid HS.out.2.2.1
      clear hGk hX
      go_wp2_with fail
      refine (vErr0 HR0.out).mono ?_
      rintro ev w1 ⟨rfl, hb⟩
      have HR1 := Lib.hid (HR0.out.below hb)
      have HO1 : Hid (RwB w.heap.size w1 (.slice q k c) Gl) := by
        obtain ⟨cs, hkb⟩ := HR0.out.blk
        exact Lib.hid (HS.out.2.1.but hkb (But.of_below hb) hlt)
      have HB1 := Lib.hid (HS.out.2.2.2.trans (But.of_below hb))
      clear hb HR0 HS
      go_wp2_with fail
      refine (vType HR1.out HXX.out).mono ?_
      rintro ev w2 ⟨v, rfl, ⟨uu, rfl, hu⟩, hr, hb⟩
      obtain ⟨uq, uc, rfl⟩ := own_shape hu
      have HO2 : Hid (RwB w.heap.size w2 (.slice q k c) Gl) := by
        obtain ⟨cs, hkb⟩ := HR1.out.blk
        exact Lib.hid (HO1.out.but hkb hb hlt)
      have HB2 := Lib.hid (HB1.out.trans hb)
      have hsz2 := HB2.out.size
      have HR2 := Lib.hid hr
      obtain ⟨W2, hW2⟩ := named (w2.alloc (.cells #[.int .i64 X.1, .int .i64 X.2.1, .slice uq X.2.2.length uc] 96))
      have hbw : Below w2.heap.size w2 W2 := by rw [hW2]; exact below_new8 _
      have HOW : RwB w.heap.size W2 (.slice q Gl.length c) Gl := by rw [HL.out]; exact HO2.out.low2 hbw
      have HLT : LitB X.1 X.2.1 X.2.2 (.slice (some ⟨w2.heap.size, 0, none⟩) 1 1) W2 := by rw [hW2]; exact ⟨_, _, rfl, Blk.new _ _ _ _ rfl, ⟨_, own_below8 hu (below_new8 _)⟩⟩
      obtain ⟨q2, c2, w3, hrun, ho3, hb3⟩ := RwB.app HOW HLT (by rw [HL.out]; omega) (by have := hbw.size; omega)
      have hl3 := (hbw.mono (Nat.le_refl _))
      have hbx : Below w.heap.size w2 w3 := (hbw.mono hsz2).trans hb3
      have HRUN := Lib.hid hrun
      have HN : Hid (RdV w3 lo b l na ne ∧ RwB w.heap.size w3 (.slice q2 (k + 1) c2) (Gl ++ [X]) ∧ But b w w3) := Lib.hid ⟨HR2.out.low hbx hlt, by rw [← HL.out]; exact ho3, HB2.out.on hbx (Nat.le_refl _)⟩
      rw [HL.out] at HRUN
      rw [hW2] at HRUN
      clear hr hb hW2 hbw hrun ho3 hb3 hl3 hbx HO1 HB1 HR1 HO2 HB2 HR2
      go_wp2_with (at_builtin; refine wpList_append_run rfl _ _ 26 rfl _ _ _ rfl rfl HRUN.out ?_)
      go_roundw
      case rel => exact ⟨k + 1, q2, c2, by omega, rfl, by rw [HGS.out]; exact Lib.hid ⟨HN.out.1, HN.out.2.1, by rw [List.length_append, HL.out]; rfl, HN.out.2.2⟩⟩
      case measure => simp [lenV]; omega
    · have hfin : G N = G k := goK_end HG.out hk hgo
      have HP : Hid (∃ q' c', Value.slice q k c = .slice q' (G N).1.length c' ∧ RwB w.heap.size wr (.slice q' (G N).1.length c') (G N).1 ∧ RdV wr lo b l (G N).2.1 (G N).2.2 ∧ But b w wr) := by
        rw [hfin]
        exact Lib.hid ⟨q, c, by rw [HS.out.2.2.1], by rw [HS.out.2.2.1]; exact HS.out.2.1, HS.out.1, HS.out.2.2.2⟩
      by_cases h1 : k < N
      · have he : ¬ (G k).2.2 = 0 := fun h => hgo ⟨h1, h⟩
        have hki : (k : Int) < N := by omega
        have HE := Lib.hid he
        clear hgo hfin he
        go_wp2_with fail
        refine (vErr HS.out.1 HE.out).mono ?_
        rintro ev w1 ⟨v, rfl, ⟨-, kk, rfl⟩, hb⟩
        have HP1 : Hid (ManyB (G N) w lo b l (.returned (.slice q k c)) w1) := by
          obtain ⟨cs, hkb⟩ := HS.out.1.blk
          obtain ⟨q', c', e1, h2, h3, h4⟩ := HP.out
          exact Lib.hid ⟨q', c', by rw [e1], by obtain ⟨cs, hkb⟩ := h3.blk; exact h2.but hkb (But.of_below hb) hlt, h3.below hb, h4.trans (But.of_below hb)⟩
        clear hb HP HS HE
        go_wp2_with fail
        go_ret
        exact HP1.out
      · have hki : ¬ (k : Int) < N := by omega
        have HP1 : Hid (ManyB (G N) w lo b l (.returned (.slice q k c)) wr) := by
          obtain ⟨q', c', e1, h2, h3, h4⟩ := HP.out
          exact Lib.hid ⟨q', c', by rw [e1], h2, h3, h4⟩
        clear hgo hfin HP HS
        go_wp2_with fail
        go_ret
        exact HP1.out

end Go.Proofs.YtjapdbegfanfiaaGreatDoor

/-
  The program's file.Parse: the vertices, the net.
-/
namespace Go.Proofs.YtjapdbegfanfiaaGreatDoor
open Go.RowKit

/-- All old blocks but two. -/
structure Two (b p : Nat) (w w' : World) : Prop where
  os : w'.os = w.os
  tape : w'.tape = w.tape
  output : w'.output = w.output
  size : w.heap.size ≤ w'.heap.size
  block : ∀ k, k < w.heap.size → k ≠ b → k ≠ p → w'.heap[k]? = w.heap[k]?
theorem Two.of {b p B : Nat} {w w1 w2 w3 : World} (h1 : But b w w1) (h2 : But p w1 w2) (h3 : Below B w2 w3) (hB : w.heap.size ≤ B) : Two b p w w3 :=
  ⟨h3.os.trans (h2.os.trans h1.os), h3.tape.trans (h2.tape.trans h1.tape), h3.output.trans (h2.output.trans h1.output), Nat.le_trans h1.size (Nat.le_trans h2.size h3.size),
    fun k hk hb hp => (h3.block k (by omega)).trans ((h2.block k (by have := h1.size; omega) hp).trans (h1.block k hk hb))⟩
theorem own_two {w w' : World} {b p base : Nat} {et : TypeId} {size : Nat} {v : Value} {n : Nat} {xs : List Value} (h : w.ownsRow base et size v n xs) (ht : Two b p w w') (hb : b < base) (hp : p < base) : w'.ownsRow base et size v n xs := by
  refine ⟨h.1, ?_⟩
  rcases h.2 with h0 | ⟨g, cap, cur, h1, h2, h3, h4⟩
  · exact Or.inl h0
  · exact Or.inr ⟨g, cap, cur, h1, h2, (ht.block g (Array.getElem?_eq_some_iff.1 h3).1 (by omega) (by omega)).trans h3, h4⟩
theorem But.two {b p : Nat} {w0 w w' : World} (h : But b w0 w) (ht : Two b p w w') (hp : w0.heap.size ≤ p) : But b w0 w' :=
  ⟨ht.os.trans h.os, ht.tape.trans h.tape, ht.output.trans h.output, Nat.le_trans h.size ht.size, fun k hk hb => (ht.block k (by have := h.size; omega) hb (by omega)).trans (h.block k hk hb)⟩
end Go.Proofs.YtjapdbegfanfiaaGreatDoor

namespace Go.Proofs.YtjapdbegfanfiaaGreatDoor
open Go.RowKit
/-- What the read of a vertex answers: the one ahead lies in block p. -/
def VPost (X : Tri) (w : World) (lo b p : Nat) (l : List Int) (a' : Nat) (e' : Int) (ev : Ending) (w' : World) : Prop :=
  ev = .returned (.agg #[.int .i64 X.1, .int .i64 X.2.1, .int .i64 X.2.2]) ∧ RdV w' lo b l a' e' ∧ Blk w' p #[.int .i64 X.1, .int .i64 X.2.1, .int .i64 X.2.2] 93 ∧ Two b p w w'
set_option maxRecDepth 100000 in
set_option maxHeartbeats 4000000 in
theorem vVert {w : World} {lo b p a a' : Nat} {l : List Int} {e e' gx gy z : Int} {X : Tri} (h : RdV w lo b l a e) (hp : Blk w p #[.int .i64 gx, .int .i64 gy, .int .i64 z] 93) (hpb : b < p) (hx : -1000000000000 ≤ gx ∧ gx ≤ 1000000000000) (hy : -1000000000000 ≤ gy ∧ gy ≤ 1000000000000)
    (hr : rdV l ((gx, gy), (a, e)) = (X, (X.1, X.2.1), (a', e'))) :
    Calls Tryz.prog 87 #[rp b, .pointer (some ⟨p, 0, none⟩)] w (VPost X w lo b p l a' e') := by
  have h8 := h.in8
  have hplt := hp.lt
  obtain ⟨dx, xa, xe, e1⟩ : ∃ V a1 e1, rdI l 2097152 (a, e) = (V, a1, e1) := ⟨_, _, _, rfl⟩
  obtain ⟨dy, ya, ye, e2⟩ : ∃ V a1 e1, rdI l 2097152 (xa, xe) = (V, a1, e1) := ⟨_, _, _, rfl⟩
  obtain ⟨ty, na, ne, e3⟩ : ∃ V a1 e1, rdU l 16384 (ya, ye) = (V, a1, e1) := ⟨_, _, _, rfl⟩
  have b1 := rdI_in h8 2097152 (a, e) (by omega)
  have b2 := rdI_in h8 2097152 (xa, xe) (by omega)
  rw [e1] at b1
  rw [e2] at b2
  simp only at b1 b2
  have hC : rdV l ((gx, gy), (a, e)) = ((gx + dx, gy + dy, ty), ((gx + dx, gy + dy), (na, ne))) := by
    unfold rdV
    simp only [e1, e2, e3]
  rw [hC] at hr
  obtain ⟨rfl, -, rfl, rfl⟩ : (gx + dx, gy + dy, ty) = X ∧ True ∧ na = a' ∧ ne = e' := by
    simp only [Prod.mk.injEq] at hr
    exact ⟨hr.1, trivial, hr.2.2.1, hr.2.2.2⟩
  have hwx : IntKind.i64.wrap (gx + dx) = gx + dx := wrap_small (by omega) (by omega)
  have hwy : IntKind.i64.wrap (gy + dy) = gy + dy := wrap_small (by omega) (by omega)
  obtain ⟨Xx, hX⟩ : ∃ Y, gx + dx = Y := ⟨_, rfl⟩
  obtain ⟨Xy, hY⟩ : ∃ Y, gy + dy = Y := ⟨_, rfl⟩
  have hwx' : IntKind.i64.wrap (gx + dx) = Xx := by rw [hwx, hX]
  have hwy' : IntKind.i64.wrap (gy + dy) = Xy := by rw [hwy, hY]
  rw [hX, hY]
  have hu1 : intR l a e 2097152 = (dx, xa, xe) := e1
  have hu2 : intR l xa xe 2097152 = (dy, ya, ye) := e2
  have hu3 : uintR l ya ye 16384 = (ty, na, ne) := e3
  have HU3 := Lib.hid hu3
  have HH := Lib.hid (h.below (below_new8 (.cells #[.int .i64 0, .int .i64 0, .int .i64 0] 93)))
  have HB0 : Hid (But b w (w.alloc (.cells #[.int .i64 0, .int .i64 0, .int .i64 0] 93))) := Lib.hid (But.of_below (below_new8 _))
  have HK0 : Hid (Blk (w.alloc (.cells #[.int .i64 0, .int .i64 0, .int .i64 0] 93)) w.heap.size #[.int .i64 0, .int .i64 0, .int .i64 0] 93) := Lib.hid (Blk.new _ _ _ _ rfl)
  have HP0 := Lib.hid (hp.old (.cells #[.int .i64 0, .int .i64 0, .int .i64 0] 93))
  clear h hp hC e1 e2 e3 b1 b2 hr h8 hwx hwy hX hY hu3 hx hy
  go_enter Tryz.func87, Tryz.ntmps87
  go_wp2_with fail
  refine (vStep HH.out hu1).mono ?_
  rintro ev w1 ⟨rfl, h1, hb⟩
  have HR1 := Lib.hid h1
  have HB1 := Lib.hid (HB0.out.trans hb)
  have HK1 := Lib.hid (hb.blk HK0.out (by omega))
  have HP1 := Lib.hid (hb.blk HP0.out (by omega))
  clear h1 hb HH hu1 HB0 HK0 HP0
  go_wp2_with fail
  refine (vStep HR1.out hu2).mono ?_
  rintro ev w2 ⟨rfl, h1, hb⟩
  have HR2 := Lib.hid h1
  have HB2 := Lib.hid (HB1.out.trans hb)
  have HK2 := Lib.hid (hb.blk HK1.out (by omega))
  have HP2 := Lib.hid (hb.blk HP1.out (by omega))
  clear h1 hb HR1 hu2 HB1 HK1 HP1
  go_wp2_with fail
  have HNB : Hid (∀ w', (∃ cc : Bool, (cc = false → RdV w' lo b l ya ye) ∧ (cc = true → RdV w' lo b l na ne) ∧ Blk w' p #[.int .i64 gx, .int .i64 gy, .int .i64 z] 93 ∧ But b w2 w') → w'.cell? ⟨p, 0, none⟩ = some (.int .i64 gx) ∧ w'.cell? ⟨p, 1, none⟩ = some (.int .i64 gy) ∧ w'.cell? ⟨p, 2, none⟩ = some (.int .i64 z)) := by
    refine Lib.hid fun w' ⟨cc, hS⟩ => ?_
    obtain ⟨d0, d1, d2, -⟩ := hS.2.2.1.o3
    exact ⟨d0, d1, d2⟩
  have hGS : GB.Grows (fun (cc : Bool) w' => (cc = false → RdV w' lo b l ya ye) ∧ (cc = true → RdV w' lo b l na ne) ∧ Blk w' p #[.int .i64 gx, .int .i64 gy, .int .i64 z] 93 ∧ But b w2 w') := fun cc w1 w3 h hb => ⟨fun h0 => (h.1 h0).below hb, fun h0 => (h.2.1 h0).below hb, h.2.2.1.keep hb, h.2.2.2.trans (But.of_below hb)⟩
  refine' GB.wp_thenL (β := b) _ 11 (fun (cc : Bool) w' => (cc = false → RdV w' lo b l ya ye) ∧ (cc = true → RdV w' lo b l na ne) ∧ Blk w' p #[.int .i64 gx, .int .i64 gy, .int .i64 z] 93 ∧ But b w2 w') 9 [[], [0], [], [0, 1, 2], [], [4], [], [4, 5, 6], [], [8], [0, 1, 2, 3, 4, 5, 6, 7, 8, 9]] (GB.Fact.lit _ :: GB.Fact.lit _ :: GB.Fact.lit _ :: GB.Fact.lit _ :: GB.Fact.lit _ :: GB.Fact.lit _ :: GB.Fact.lit _ :: GB.Fact.lit _ :: GB.Fact.lit _ :: GB.Fact.lit _ :: GB.Fact.lit _ :: []) (by kernel_rfl) rfl (by kernel_rfl) ⟨fun _ => HR2.out.below (Below.refl _ _).drew, (fun h0 => by cases h0), HP2.out.drew, (But.refl b w2).drew⟩ ?seqv
  case' seqv => skip
  iterate 9 ((first | (apply GB.grow_skip; (case hf => rfl); (case hw => rfl)) | (apply GB.grow_lit; (case hf => rfl); (case hw => rfl); (case hrun => (intro w' hS H; clear H; (obtain ⟨d0, d1, d2⟩ := HNB.out w' hS); clear hS; go_simp; first | done | exact rfl)))); (case hc => (simp only [Act.put, List.setIfInBounds_toArray, List.set_cons_zero, List.set_cons_succ]; first | done | exact rfl)); (try (case hj => rfl)))
  (refine' GB.grow_callJ (u := .int .i64 ty) rfl Tryz.func53 (by kernel_rfl) rfl rfl ?wtcj ?runcj ?putcj ?nextcj; (case wtcj => rfl); (case runcj => (intro w' hS H; exact (vPlain (hS.1 rfl) HU3.out (by omega) (by omega)).mono (fun ev w2 h => ⟨h.1, ⟨(fun h0 => by cases h0), (fun _ => h.2.1), h.2.2.blk hS.2.2.1 (by omega), hS.2.2.2.trans h.2.2⟩, h.2.2⟩))); (case putcj => (simp only [Act.put, List.setIfInBounds_toArray, List.set_cons_zero, List.set_cons_succ]; first | done | exact rfl)); (case' nextcj => skip))
  iterate 1 ((first | (apply GB.grow_skip; (case hf => rfl); (case hw => rfl)) | (apply GB.grow_lit; (case hf => rfl); (case hw => rfl); (case hrun => (intro w' hS H; clear H; (obtain ⟨d0, d1, d2⟩ := HNB.out w' hS); clear hS; go_simp; first | done | exact rfl)))); (case hc => (simp only [Act.put, List.setIfInBounds_toArray, List.set_cons_zero, List.set_cons_succ]; first | done | exact rfl)); (try (case hj => rfl)))
  intro cc w9 hS hcc hk9
  obtain rfl : cc = true := hcc (by decide)
  have HR9 := Lib.hid (hS.2.1 rfl)
  have HP9 := Lib.hid hS.2.2.1
  have HB9 := Lib.hid (HB2.out.trans hS.2.2.2)
  have HK9 := Lib.hid (hS.2.2.2.blk HK2.out (by omega))
  obtain ⟨d0, d1, d2, f0, f1, f2⟩ := HP9.out.o3
  clear hS hk9 hcc hGS HNB HR2 HB2 HK2 HP2
  refine wpAny_ready (rs := [11]) (by kernel_rfl) (by simp) (AllReady.cons rfl (fun K hK => ?_) AllReady.nil)
  go_simp
  refine hK _ _ ?_
  clear hK K
  refine wpAny_done (by kernel_rfl) ?_ _
  clear d0 d1 d2 f0 f1 f2
  obtain ⟨W, hW⟩ := named (((w9.setCell ⟨p, 0, none⟩ (.int .i64 Xx)).setCell ⟨p, 1, none⟩ (.int .i64 Xy)).setCell ⟨p, 2, none⟩ (.int .i64 ty))
  rw [← hW]
  have hbp : But p w9 W := by
    rw [hW]
    iterate 3 (refine But.setCell ?_ _ _)
    exact But.refl _ _
  have HRW := Lib.hid (HR9.out.but hbp (Or.inr hpb))
  have HPW : Hid (Blk W p #[.int .i64 Xx, .int .i64 Xy, .int .i64 ty] 93) := by rw [hW]; exact Lib.hid (by simpa using ((HP9.out.set 0 (.int .i64 Xx)).set 1 (.int .i64 Xy)).set 2 (.int .i64 ty))
  have HKW := Lib.hid (hbp.blk HK9.out (by omega))
  have HBP := Lib.hid hbp
  clear hW hbp HR9 HP9 HK9
  obtain ⟨d0, d1, d2, -, -, -⟩ := HPW.out.o3
  obtain ⟨r0, r1, r2, g0, g1, g2⟩ := HKW.out.o3
  have HF : Hid (VPost (Xx, Xy, ty) w lo b p l na ne (.returned (.agg #[.int .i64 Xx, .int .i64 Xy, .int .i64 ty])) (((W.setCell ⟨w.heap.size, 0, none⟩ (.int .i64 Xx)).setCell ⟨w.heap.size, 1, none⟩ (.int .i64 Xy)).setCell ⟨w.heap.size, 2, none⟩ (.int .i64 ty))) := by
    have hx : Below w.heap.size W (((W.setCell ⟨w.heap.size, 0, none⟩ (.int .i64 Xx)).setCell ⟨w.heap.size, 1, none⟩ (.int .i64 Xy)).setCell ⟨w.heap.size, 2, none⟩ (.int .i64 ty)) := by
      iterate 3 (refine Below.setCell ?_ (by simp only []; omega) _)
      exact Below.refl _ _
    exact Lib.hid ⟨rfl, HRW.out.low hx (by omega), HPW.out.carry hx hplt, Two.of HB9.out HBP.out hx (Nat.le_refl _)⟩
  clear HRW HPW HKW HB9 HBP
  go_wp2_with fail
  exact bodyPost_ret (v := .agg #[.int .i64 Xx, .int .i64 Xy, .int .i64 ty]) (by simp [results, Tryz.results87, go_sem]; go_simp) rfl HF.out

end Go.Proofs.YtjapdbegfanfiaaGreatDoor

/-
  The program's file.Parse: the vertices, the net.
-/
namespace Go.Proofs.YtjapdbegfanfiaaGreatDoor
open Go.RowKit

/-- What the loop over the vertices answers: w0 the world ahead of the block p. -/
def ManyV (G : List Tri × ((Int × Int) × RSt)) (w0 w : World) (lo b : Nat) (l : List Int) (ev : Ending) (w' : World) : Prop :=
  ∃ q c, ev = .returned (.slice q G.1.length c) ∧ RwT 93 w.heap.size w' (.slice q G.1.length c) G.1 ∧ RdV w' lo b l G.2.2.1 G.2.2.2 ∧ But b w0 w'
set_option maxRecDepth 100000 in
set_option maxHeartbeats 4000000 in
theorem manyV {w0 w : World} {lo b p a : Nat} {l : List Int} {e : Int} (h : RdV w lo b l a e) (hp : Blk w p #[.int .i64 0, .int .i64 0, .int .i64 0] 93) (hpb : b < p) (hb0 : But b w0 w) (h0 : w0.heap.size ≤ p) (N : Nat) (hN : N ≤ 4096) :
    Calls Tryz.prog 86 #[rp b, .int .i64 N, .func (.func 87) #[] #[.pointer (some ⟨p, 0, none⟩)]] w (ManyV (goK erV (rdV l) ((0, 0), (a, e)) N) w0 w lo b l) := by
  obtain ⟨G, hG⟩ : ∃ G, goK erV (rdV l) ((0, 0), (a, e)) = G := ⟨_, rfl⟩
  rw [hG]
  have hlt := h.lt.2.1
  have hplt := hp.lt
  have hbd : ∀ k : Nat, (-(2097152 * (k : Int)) ≤ (G k).2.1.1 ∧ (G k).2.1.1 ≤ 2097152 * (k : Int)) ∧ -(2097152 * (k : Int)) ≤ (G k).2.1.2 ∧ (G k).2.1.2 ≤ 2097152 * (k : Int) := fun k => by rw [← hG]; exact (rdV_in h.in8 (a, e) k).2
  have HBD := Lib.hid hbd
  have hs : Hid (RdV w lo b l (G 0).2.2.1 (G 0).2.2.2 ∧ RwT 93 w.heap.size w (.slice none 0 0) (G 0).1 ∧ (G 0).1.length = 0 ∧ But b w0 w ∧ (∃ z, Blk w p #[.int .i64 (G 0).2.1.1, .int .i64 (G 0).2.1.2, .int .i64 z] 93) ∧ w.heap.size ≤ w.heap.size) := by
    rw [← hG]
    exact Lib.hid ⟨h, RwT.nil, rfl, hb0, ⟨0, hp⟩, Nat.le_refl _⟩
  have HG := Lib.hid hG
  clear h hG hp hb0 hbd
  go_enter Tryz.func86, Tryz.ntmps86
  go_wp2_with fail
  go_loopw [7] (fun lv wr => ∃ (k : Nat) (q : Option Addr) (c : Nat), k ≤ N ∧ lv = .slice q k c ∧ Hid (RdV wr lo b l (G k).2.2.1 (G k).2.2.2 ∧ RwT 93 w.heap.size wr (.slice q k c) (G k).1 ∧ (G k).1.length = k ∧ But b w0 wr ∧ (∃ z, Blk wr p #[.int .i64 (G k).2.1.1, .int .i64 (G k).2.1.2, .int .i64 z] 93) ∧ w.heap.size ≤ wr.heap.size)) (fun lv _ => N - lenV lv)
  case atStart => exact ⟨0, none, 0, Nat.zero_le _, rfl, hs⟩
  case round =>
    clear hs
    obtain ⟨k, q, c, hk, rfl, HS⟩ := hrel
    have hsz := HS.out.2.2.2.2.2
    by_cases hgo : k < N ∧ (G k).2.2.2 = 0
    · obtain ⟨hk1, he0⟩ := hgo
      have hki : (k : Int) < N := by omega
      have hB := HBD.out k
      obtain ⟨Gl, gx, gy, Ga, Ge, hGk⟩ : ∃ Gl gx gy Ga Ge, G k = (Gl, (gx, gy), Ga, Ge) := ⟨_, _, _, _, _, rfl⟩
      rw [hGk] at HS he0 hB
      simp only at HS he0 hB
      subst he0
      obtain ⟨X, na, ne, hX⟩ : ∃ X na ne, rdV l ((gx, gy), (Ga, 0)) = (X, (X.1, X.2.1), (na, ne)) := ⟨_, _, _, rfl⟩
      have HGS := Lib.hid (goK_more HG.out hGk rfl hX)
      have HXX := Lib.hid hX
      have HR0 := Lib.hid HS.out.1
      have HL := Lib.hid HS.out.2.2.1
      obtain ⟨z, hz⟩ := HS.out.2.2.2.2.1
      have hxb : -1000000000000 ≤ gx ∧ gx ≤ 1000000000000 := by omega
      have hyb : -1000000000000 ≤ gy ∧ gy ≤ 1000000000000 := by omega
      have HXB := Lib.hid hxb
      have HYB := Lib.hid hyb
      have HZ := Lib.hid hz
      clear hGk hX hB hxb hyb hz
      go_wp2_with fail
      refine (vErr0 HR0.out).mono ?_
      rintro ev w1 ⟨rfl, hb⟩
      have HR1 := Lib.hid (HR0.out.below hb)
      have HO1 : Hid (RwT 93 w.heap.size w1 (.slice q k c) Gl) := Lib.hid (HS.out.2.1.but (But.of_below hb) hlt)
      have HB1 := Lib.hid (HS.out.2.2.2.1.trans (But.of_below hb))
      have HP1 := Lib.hid (HZ.out.keep hb)
      have hsz1 : w.heap.size ≤ w1.heap.size := Nat.le_trans hsz hb.size
      clear hb HR0 HS HZ
      go_wp2_with fail
      refine (vVert HR1.out HP1.out hpb HXB.out HYB.out HXX.out).mono ?_
      rintro ev w2 ⟨rfl, hr, hp2, htw⟩
      have HO2 : Hid (RwT 93 w.heap.size w2 (.slice q k c) Gl) := Lib.hid (own_two HO1.out htw hlt hplt)
      have HB2 := Lib.hid (HB1.out.two htw h0)
      have hsz2 : w.heap.size ≤ w2.heap.size := Nat.le_trans hsz1 htw.size
      have HR2 := Lib.hid hr
      have HP2 := Lib.hid hp2
      obtain ⟨W2, hW2⟩ := named (w2.alloc (.cells #[.int .i64 X.1, .int .i64 X.2.1, .int .i64 X.2.2] 93))
      have hbw : Below w2.heap.size w2 W2 := by rw [hW2]; exact below_new8 _
      have HOW : RwT 93 w.heap.size W2 (.slice q Gl.length c) Gl := by rw [HL.out]; exact HO2.out.low2 hbw
      have HLT : LitT 93 X (.slice (some ⟨w2.heap.size, 0, none⟩) 1 1) W2 := by rw [hW2]; exact ⟨_, rfl, Blk.new _ _ _ _ rfl⟩
      obtain ⟨q2, c2, w3, hrun, ho3, hb3⟩ := RwT.app Tryz.underlying24 infoVert HOW HLT (by rw [HL.out]; omega) (by have := hbw.size; omega)
      have hbx : Below w.heap.size w2 w3 := (hbw.mono hsz2).trans hb3
      have HRUN := Lib.hid hrun
      have HN : Hid (RdV w3 lo b l na ne ∧ RwT 93 w.heap.size w3 (.slice q2 (k + 1) c2) (Gl ++ [X]) ∧ But b w0 w3 ∧ (∃ z, Blk w3 p #[.int .i64 X.1, .int .i64 X.2.1, .int .i64 z] 93) ∧ w.heap.size ≤ w3.heap.size) := Lib.hid ⟨HR2.out.low hbx hlt, by rw [← HL.out]; exact ho3, HB2.out.on hbx (by omega), ⟨_, HP2.out.carry hbx hplt⟩, Nat.le_trans hsz2 hbx.size⟩
      rw [HL.out] at HRUN
      rw [hW2] at HRUN
      clear hr hW2 hbw hrun ho3 hb3 hbx HO1 HB1 HR1 HO2 HB2 HR2 HP1 HP2 hp2 htw HOW HLT hsz1 hsz2
      go_wp2_with (at_builtin; refine wpList_append_run rfl _ _ 24 rfl _ _ _ rfl rfl HRUN.out ?_)
      go_roundw
      case rel => exact ⟨k + 1, q2, c2, by omega, rfl, by rw [HGS.out]; exact Lib.hid ⟨HN.out.1, HN.out.2.1, by rw [List.length_append, HL.out]; rfl, HN.out.2.2⟩⟩
      case measure => simp [lenV]; omega
    · have hfin : G N = G k := goK_end HG.out hk hgo
      have HP : Hid (∃ q' c', Value.slice q k c = .slice q' (G N).1.length c' ∧ RwT 93 w.heap.size wr (.slice q' (G N).1.length c') (G N).1 ∧ RdV wr lo b l (G N).2.2.1 (G N).2.2.2 ∧ But b w0 wr) := by
        rw [hfin]
        exact Lib.hid ⟨q, c, by rw [HS.out.2.2.1], by rw [HS.out.2.2.1]; exact HS.out.2.1, HS.out.1, HS.out.2.2.2.1⟩
      by_cases h1 : k < N
      · have he : ¬ (G k).2.2.2 = 0 := fun h => hgo ⟨h1, h⟩
        have hki : (k : Int) < N := by omega
        have HE := Lib.hid he
        clear hgo hfin he
        go_wp2_with fail
        refine (vErr HS.out.1 HE.out).mono ?_
        rintro ev w1 ⟨v, rfl, ⟨-, kk, rfl⟩, hb⟩
        have HP1 : Hid (ManyV (G N) w0 w lo b l (.returned (.slice q k c)) w1) := by
          obtain ⟨q', c', e1, h2, h3, h4⟩ := HP.out
          exact Lib.hid ⟨q', c', by rw [e1], h2.but (But.of_below hb) hlt, h3.below hb, h4.trans (But.of_below hb)⟩
        clear hb HP HS HE
        go_wp2_with fail
        go_ret
        exact HP1.out
      · have hki : ¬ (k : Int) < N := by omega
        have HP1 : Hid (ManyV (G N) w0 w lo b l (.returned (.slice q k c)) wr) := by
          obtain ⟨q', c', e1, h2, h3, h4⟩ := HP.out
          exact Lib.hid ⟨q', c', by rw [e1], h2, h3, h4⟩
        clear hgo hfin HP HS
        go_wp2_with fail
        go_ret
        exact HP1.out
theorem RwT.low3 {ty : TypeId} {w : World} {B B' : Nat} {v : Value} {L : List Tri} (h : RwT ty B w v L) (hb : B' ≤ B) : RwT ty B' w v L := by
  refine ⟨h.1, ?_⟩
  rcases h.2 with h0 | ⟨g, cap, cur, h1, h2, h3⟩
  · exact Or.inl h0
  · exact Or.inr ⟨g, cap, cur, h1, Nat.le_trans hb h2, h3⟩
theorem RwB.low3 {w : World} {B B' : Nat} {v : Value} {L : List Tab} (h : RwB B w v L) (hb : B' ≤ B) : RwB B' w v L := by
  obtain ⟨us, h, hr⟩ := h
  refine ⟨us, ⟨h.1, ?_⟩, hr⟩
  rcases h.2 with h0 | ⟨g, cap, cur, h1, h2, h3⟩
  · exact Or.inl h0
  · exact Or.inr ⟨g, cap, cur, h1, Nat.le_trans hb h2, h3⟩
set_option maxRecDepth 100000 in
set_option maxHeartbeats 4000000 in
theorem vVerts {w : World} {lo b a : Nat} {l : List Int} {e : Int} (h : RdV w lo b l a e) (N : Nat) (hN : N ≤ 4096) :
    Calls Tryz.prog 56 #[rp b, .int .i64 N] w (ManyV (goK erV (rdV l) ((0, 0), (a, e)) N) w w lo b l) := by
  have hlt := h.lt.2.1
  have HH := Lib.hid (h.below (below_new8 (.cells #[.int .i64 0, .int .i64 0, .int .i64 0] 93)))
  have HB0 : Hid (But b w (w.alloc (.cells #[.int .i64 0, .int .i64 0, .int .i64 0] 93))) := Lib.hid (But.of_below (below_new8 _))
  have HK0 : Hid (Blk (w.alloc (.cells #[.int .i64 0, .int .i64 0, .int .i64 0] 93)) w.heap.size #[.int .i64 0, .int .i64 0, .int .i64 0] 93) := Lib.hid (Blk.new _ _ _ _ rfl)
  have hmf : ∀ (fn : Fn) (first cap : Array Value) (w : World), (Instr.makeFunc fn first cap).run Tryz.prog w = .ok (.func fn first cap) w := fun _ _ _ _ => rfl
  clear h
  go_enter Tryz.func56, Tryz.ntmps56
  go_wp2_with fail
  refine (manyV HH.out HK0.out hlt HB0.out (Nat.le_refl _) N hN).mono ?_
  rintro ev w1 ⟨q, c, rfl, ho, hr, hb⟩
  have HF : Hid (ManyV (goK erV (rdV l) ((0, 0), (a, e)) N) w w lo b l (.returned (.slice q (goK erV (rdV l) ((0, 0), (a, e)) N).1.length c)) w1) := Lib.hid ⟨q, c, rfl, RwT.low3 ho (by simp), hr, hb⟩
  clear ho hr hb HH HB0 HK0 hmf
  go_wp2_with fail
  go_ret
  exact HF.out

theorem RwT.set {ty : TypeId} {w : World} {B : Nat} {v : Value} {L : List Tri} (h : RwT ty B w v L) {k : Nat} {cs : Array Value} (hk : Blk w k cs 28) (hne : ty ≠ 28) (o : Nat) (x : Value) : RwT ty B (w.setCell ⟨k, o, none⟩ x) v L := owns_set h hk hne o x
theorem RwB.set {w : World} {B : Nat} {v : Value} {L : List Tab} (h : RwB B w v L) {k : Nat} {cs : Array Value} (hk : Blk w k cs 28) (o : Nat) (x : Value) : RwB B (w.setCell ⟨k, o, none⟩ x) v L := by
  obtain ⟨us, h, hr⟩ := h
  exact ⟨us, owns_set h hk (by decide) o x, hr.map fun _ _ hu => hu.set hk (by decide) o x⟩
/-- A net whose rows lie in blocks of their own. -/
def NetO (B : Nat) (w : World) (nv : Value) (n : NetD) : Prop :=
  ∃ vq vc aq ac tq tc, nv = .agg #[.slice vq n.v.length vc, .slice aq n.a.length ac, .slice tq n.t.length tc] ∧ RwT 93 B w (.slice vq n.v.length vc) n.v ∧ RwT 94 B w (.slice aq n.a.length ac) n.a ∧ RwB B w (.slice tq n.t.length tc) n.t
theorem NetO.below {B : Nat} {w w' : World} {nv : Value} {n : NetD} (h : NetO B w nv n) (hb : Below w.heap.size w w') : NetO B w' nv n := by
  obtain ⟨vq, vc, aq, ac, tq, tc, e, h1, h2, h3⟩ := h
  exact ⟨vq, vc, aq, ac, tq, tc, e, h1.low2 hb, h2.low2 hb, h3.low2 hb⟩
theorem NetO.set {B : Nat} {w : World} {nv : Value} {n : NetD} (h : NetO B w nv n) {k : Nat} {cs : Array Value} (hk : Blk w k cs 28) (o : Nat) (x : Value) : NetO B (w.setCell ⟨k, o, none⟩ x) nv n := by
  obtain ⟨vq, vc, aq, ac, tq, tc, e, h1, h2, h3⟩ := h
  exact ⟨vq, vc, aq, ac, tq, tc, e, h1.set hk (by decide) _ _, h2.set hk (by decide) _ _, h3.set hk _ _⟩
theorem NetO.net {B : Nat} {w : World} {nv : Value} {n : NetD} (h : NetO B w nv n) (hs : n.v.length ≤ 4096 ∧ n.a.length ≤ 16384 ∧ n.t.length ≤ 256) (hc : ∀ t ∈ n.t, t.2.2.length ≤ 256) : NetV w nv n := by
  obtain ⟨vq, vc, aq, ac, tq, tc, e, h1, h2, us, h3, h4⟩ := h
  exact ⟨_, _, _, e, tris_of_owns h1 (by omega), tris_of_owns h2 (by omega), tabs_of_owns h3 h4 (by omega) (fun x hx => by have := hc x hx; omega)⟩
/-- What readNet answers. -/
def NPost (l : List Int) (w : World) (lo b : Nat) (ev : Ending) (w' : World) : Prop :=
  ∃ nv, ev = .returned nv ∧ NetO w.heap.size w' nv (rdN l) ∧ RdV w' lo b l (rdAs l).2.1 (rdAs l).2.2 ∧ But b w w'
set_option maxRecDepth 100000 in
set_option maxHeartbeats 4000000 in
theorem vNet {w : World} {lo b : Nat} {l : List Int} (h : RdV w lo b l 0 0) : Calls Tryz.prog 25 #[rp b] w (NPost l w lo b) := by
  have hlt := h.lt.2.1
  have h8 := h.in8
  obtain ⟨⟨t0, t1⟩, ⟨v0, v1⟩, ⟨a0, a1⟩⟩ := rdK_in h8
  obtain ⟨tn, sa1, se1, h1⟩ : ∃ V a e, rdU l 256 (0, 0) = (V, a, e) := ⟨_, _, _, rfl⟩
  obtain ⟨vn, sa2, se2, h2⟩ : ∃ V a e, rdU l 4096 (sa1, se1) = (V, a, e) := ⟨_, _, _, rfl⟩
  obtain ⟨an, sa3, se3, h3⟩ : ∃ V a e, rdU l 16384 (sa2, se2) = (V, a, e) := ⟨_, _, _, rfl⟩
  have hK : rdK l = ((tn, vn, an), (sa3, se3)) := by unfold rdK; simp only [h1, h2, h3]
  rw [hK] at t0 t1 v0 v1 a0 a1
  simp only at t0 t1 v0 v1 a0 a1
  obtain ⟨tN, rfl⟩ := Int.eq_ofNat_of_zero_le t0
  obtain ⟨vN, rfl⟩ := Int.eq_ofNat_of_zero_le v0
  obtain ⟨aN, rfl⟩ := Int.eq_ofNat_of_zero_le a0
  have hu1 : uintR l 0 0 256 = ((tN : Int), sa1, se1) := h1
  have hu2 : uintR l sa1 se1 4096 = ((vN : Int), sa2, se2) := h2
  have hu3 : uintR l sa2 se2 16384 = ((aN : Int), sa3, se3) := h3
  obtain ⟨GT, hGT⟩ : ∃ G, goK erS (rdT l) (sa3, se3) tN = G := ⟨_, rfl⟩
  have eT : rdTs l = GT := by unfold rdTs; rw [hK, ← hGT]; rfl
  obtain ⟨GV, hGV⟩ : ∃ G, goK erV (rdV l) ((0, 0), (GT.2.1, GT.2.2)) vN = G := ⟨_, rfl⟩
  have eV : rdVs l = GV := by unfold rdVs; rw [hK, eT, ← hGV]; rfl
  obtain ⟨GA, hGA⟩ : ∃ G, goK erS (rdA l) (GV.2.2.1, GV.2.2.2) aN = G := ⟨_, rfl⟩
  have eA : rdAs l = GA := by unfold rdAs; rw [hK, eV, ← hGA]; rfl
  have eN : rdN l = ⟨GV.1, GA.1, GT.1⟩ := by unfold rdN; rw [eT, eV, eA]
  have HGT := Lib.hid hGT
  have HGV := Lib.hid hGV
  have HGA := Lib.hid hGA
  have EA := Lib.hid eA
  have EN := Lib.hid eN
  have HH := Lib.hid (h.below (below_new8 (.cells #[.slice none 0 0, .slice none 0 0, .slice none 0 0] 28)))
  have HB0 : Hid (But b w (w.alloc (.cells #[.slice none 0 0, .slice none 0 0, .slice none 0 0] 28))) := Lib.hid (But.of_below (below_new8 _))
  have HK0 : Hid (Blk (w.alloc (.cells #[.slice none 0 0, .slice none 0 0, .slice none 0 0] 28)) w.heap.size #[.slice none 0 0, .slice none 0 0, .slice none 0 0] 28) := Lib.hid (Blk.new _ _ _ _ rfl)
  clear h h8 h1 h2 h3 hK eT eV eA eN hGT hGV hGA
  go_enter Tryz.func25, Tryz.ntmps25
  go_wp2_with fail
  refine (vPlain HH.out hu1 (by omega) (by omega)).mono ?_
  rintro ev w1 ⟨rfl, h1, hb⟩
  have HR1 := Lib.hid h1
  have HB1 := Lib.hid (HB0.out.trans hb)
  have HK1 := Lib.hid (hb.blk HK0.out (by omega))
  clear h1 hb HH hu1 HB0 HK0
  go_wp2_with fail
  refine (vPlain HR1.out hu2 (by omega) (by omega)).mono ?_
  rintro ev w2 ⟨rfl, h1, hb⟩
  have HR2 := Lib.hid h1
  have HB2 := Lib.hid (HB1.out.trans hb)
  have HK2 := Lib.hid (hb.blk HK1.out (by omega))
  clear h1 hb HR1 hu2 HB1 HK1
  go_wp2_with fail
  refine (vPlain HR2.out hu3 (by omega) (by omega)).mono ?_
  rintro ev w3 ⟨rfl, h1, hb⟩
  have HR3 := Lib.hid h1
  have HB3 := Lib.hid (HB2.out.trans hb)
  have HK3 := Lib.hid (hb.blk HK2.out (by omega))
  clear h1 hb HR2 hu3 HB2 HK2
  go_wp2_with fail
  obtain ⟨W, hW⟩ := named (w3.alloc (.cells #[.slice none 0 0, .slice none 0 0, .slice none 0 0] 28))
  have hz3 : w.heap.size < w3.heap.size := HK3.out.lt
  have HRW : Hid (RdV W lo b l sa3 se3) := by rw [hW]; exact Lib.hid (HR3.out.below (below_new8 _))
  have HBW : Hid (But b w W) := by rw [hW]; exact Lib.hid (HB3.out.trans (But.of_below (below_new8 _)))
  have HKW : Hid (Blk W w.heap.size #[.slice none 0 0, .slice none 0 0, .slice none 0 0] 28) := by rw [hW]; exact Lib.hid (HK3.out.old _)
  obtain ⟨M, hM⟩ : ∃ M, w3.heap.size = M := ⟨_, rfl⟩
  have HMW : Hid (Blk W M #[.slice none 0 0, .slice none 0 0, .slice none 0 0] 28) := by rw [hW]; exact Lib.hid (Blk.new _ _ _ _ hM)
  have hMw : w.heap.size < M := by omega
  rw [← hW, hM]
  clear hW hM HR3 HB3 HK3 hz3
  refine (manyB HRW.out tN (by omega)).mono ?_
  rintro ev w4 ⟨tq, tc, rfl, ho, hr, hb⟩
  rw [HGT.out] at ho hr
  rw [HGT.out]
  have hMb : M ≠ b := by omega
  obtain ⟨m0, m1, m2, f0, f1, f2⟩ := (hb.blk HMW.out hMb).o3
  obtain ⟨W4, hW4⟩ := named (w4.setCell ⟨M, 2, none⟩ (.slice tq GT.1.length tc))
  have hx4 : Below w.heap.size w4 W4 := by rw [hW4]; exact Below.setCell (Below.refl _ _) (by simp only []; omega) _
  have HR4 := Lib.hid (hr.low hx4 hlt)
  have HB4 := Lib.hid ((HBW.out.trans hb).on hx4 (Nat.le_refl _))
  have HK4 : Hid (Blk W4 w.heap.size #[.slice none 0 0, .slice none 0 0, .slice none 0 0] 28) := by rw [hW4]; exact Lib.hid ((hb.blk HKW.out (by omega)).other _ _ (by omega))
  have HM4 : Hid (Blk W4 M #[.slice none 0 0, .slice none 0 0, .slice tq GT.1.length tc] 28) := by rw [hW4]; exact Lib.hid (by simpa using (hb.blk HMW.out hMb).set 2 (.slice tq GT.1.length tc))
  have HT4 : Hid (RwB w.heap.size W4 (.slice tq GT.1.length tc) GT.1) := by rw [hW4]; exact Lib.hid ((ho.low3 (by have := HMW.out.lt; omega)).set (hb.blk HMW.out hMb) _ _)
  clear ho hr hb HRW HBW HKW HMW hx4
  go_upto_region 4 with fail
  rw [← hW4]
  clear hW4 m0 m1 m2 f0 f1 f2
  go_wp2_with fail
  refine (vVerts HR4.out vN (by omega)).mono ?_
  rintro ev w5 ⟨vq, vc, rfl, ho, hr, hb⟩
  rw [HGV.out] at ho hr
  rw [HGV.out]
  obtain ⟨m0, m1, m2, f0, f1, f2⟩ := (hb.blk HM4.out hMb).o3
  obtain ⟨W5, hW5⟩ := named (w5.setCell ⟨M, 0, none⟩ (.slice vq GV.1.length vc))
  have hx5 : Below w.heap.size w5 W5 := by rw [hW5]; exact Below.setCell (Below.refl _ _) (by simp only []; omega) _
  have HR5 := Lib.hid (hr.low hx5 hlt)
  have HB5 := Lib.hid ((HB4.out.trans hb).on hx5 (Nat.le_refl _))
  have HK5 : Hid (Blk W5 w.heap.size #[.slice none 0 0, .slice none 0 0, .slice none 0 0] 28) := by rw [hW5]; exact Lib.hid ((hb.blk HK4.out (by omega)).other _ _ (by omega))
  have HM5 : Hid (Blk W5 M #[.slice vq GV.1.length vc, .slice none 0 0, .slice tq GT.1.length tc] 28) := by rw [hW5]; exact Lib.hid (by simpa using (hb.blk HM4.out hMb).set 0 (.slice vq GV.1.length vc))
  have HT5 : Hid (RwB w.heap.size W5 (.slice tq GT.1.length tc) GT.1) := by
    obtain ⟨cs, hkb⟩ := HR4.out.blk
    rw [hW5]
    exact Lib.hid ((HT4.out.but hkb hb hlt).set (hb.blk HM4.out hMb) _ _)
  have HV5 : Hid (RwT 93 w.heap.size W5 (.slice vq GV.1.length vc) GV.1) := by rw [hW5]; exact Lib.hid (RwT.set (ho.low3 (by have := HM4.out.lt; omega)) (hb.blk HM4.out hMb) (by decide) _ _)
  clear ho hr hb HR4 HB4 HK4 HM4 HT4 hx5
  go_upto_region 5 with fail
  rw [← hW5]
  clear hW5 m0 m1 m2 f0 f1 f2
  go_wp2_with fail
  refine (manyA HR5.out aN (by omega)).mono ?_
  rintro ev w6 ⟨aq, ac, rfl, ho, hr, hb⟩
  rw [HGA.out] at ho hr
  rw [HGA.out]
  obtain ⟨m0, m1, m2, f0, f1, f2⟩ := (hb.blk HM5.out hMb).o3
  obtain ⟨W6, hW6⟩ := named (w6.setCell ⟨M, 1, none⟩ (.slice aq GA.1.length ac))
  have hx6 : Below w.heap.size w6 W6 := by rw [hW6]; exact Below.setCell (Below.refl _ _) (by simp only []; omega) _
  have HR6 := Lib.hid (hr.low hx6 hlt)
  have HB6 := Lib.hid ((HB5.out.trans hb).on hx6 (Nat.le_refl _))
  have HK6 : Hid (Blk W6 w.heap.size #[.slice none 0 0, .slice none 0 0, .slice none 0 0] 28) := by rw [hW6]; exact Lib.hid ((hb.blk HK5.out (by omega)).other _ _ (by omega))
  have HM6 : Hid (Blk W6 M #[.slice vq GV.1.length vc, .slice aq GA.1.length ac, .slice tq GT.1.length tc] 28) := by rw [hW6]; exact Lib.hid (by simpa using (hb.blk HM5.out hMb).set 1 (.slice aq GA.1.length ac))
  have HT6 : Hid (RwB w.heap.size W6 (.slice tq GT.1.length tc) GT.1) := by
    obtain ⟨cs, hkb⟩ := HR5.out.blk
    rw [hW6]
    exact Lib.hid ((HT5.out.but hkb hb hlt).set (hb.blk HM5.out hMb) _ _)
  have HV6 : Hid (RwT 93 w.heap.size W6 (.slice vq GV.1.length vc) GV.1) := by rw [hW6]; exact Lib.hid (RwT.set (HV5.out.but hb hlt) (hb.blk HM5.out hMb) (by decide) _ _)
  have HA6 : Hid (RwT 94 w.heap.size W6 (.slice aq GA.1.length ac) GA.1) := by rw [hW6]; exact Lib.hid (RwT.set (ho.low3 (by have := HM5.out.lt; omega)) (hb.blk HM5.out hMb) (by decide) _ _)
  clear ho hr hb HR5 HB5 HK5 HM5 HT5 HV5 hx6
  go_upto_region 6 with fail
  rw [← hW6]
  clear hW6 m0 m1 m2 f0 f1 f2
  obtain ⟨m0, m1, m2, f0, f1, f2⟩ := HM6.out.o3
  obtain ⟨r0, r1, r2, g0, g1, g2⟩ := HK6.out.o3
  have hN : Hid (NPost l w lo b (.returned (.agg #[.slice vq GV.1.length vc, .slice aq GA.1.length ac, .slice tq GT.1.length tc])) (((W6.setCell ⟨w.heap.size, 0, none⟩ (.slice vq GV.1.length vc)).setCell ⟨w.heap.size, 1, none⟩ (.slice aq GA.1.length ac)).setCell ⟨w.heap.size, 2, none⟩ (.slice tq GT.1.length tc))) := by
    have k1 := HK6.out.set 0 (.slice vq GV.1.length vc)
    have k2 := k1.set 1 (.slice aq GA.1.length ac)
    have hx : Below w.heap.size W6 (((W6.setCell ⟨w.heap.size, 0, none⟩ (.slice vq GV.1.length vc)).setCell ⟨w.heap.size, 1, none⟩ (.slice aq GA.1.length ac)).setCell ⟨w.heap.size, 2, none⟩ (.slice tq GT.1.length tc)) := by
      iterate 3 (refine Below.setCell ?_ (by simp only []; omega) _)
      exact Below.refl _ _
    have ht := ((HT6.out.set HK6.out 0 (.slice vq GV.1.length vc)).set k1 1 (.slice aq GA.1.length ac)).set k2 2 (.slice tq GT.1.length tc)
    have hv := ((HV6.out.set HK6.out (by decide) 0 (.slice vq GV.1.length vc)).set k1 (by decide) 1 (.slice aq GA.1.length ac)).set k2 (by decide) 2 (.slice tq GT.1.length tc)
    have ha := ((HA6.out.set HK6.out (by decide) 0 (.slice vq GV.1.length vc)).set k1 (by decide) 1 (.slice aq GA.1.length ac)).set k2 (by decide) 2 (.slice tq GT.1.length tc)
    refine Lib.hid ⟨_, rfl, ?_, by rw [EA.out]; exact HR6.out.low hx hlt, HB6.out.on hx (Nat.le_refl _)⟩
    rw [EN.out]
    exact ⟨_, _, _, _, _, _, rfl, hv, ha, ht⟩
  clear HR6 HB6 HK6 HM6 HT6 HV6 HA6
  go_wp2_with fail
  exact bodyPost_ret (v := .agg #[.slice vq GV.1.length vc, .slice aq GA.1.length ac, .slice tq GT.1.length tc]) (by simp [results, Tryz.results25, go_sem]; go_simp) rfl hN.out

end Go.Proofs.YtjapdbegfanfiaaGreatDoor
