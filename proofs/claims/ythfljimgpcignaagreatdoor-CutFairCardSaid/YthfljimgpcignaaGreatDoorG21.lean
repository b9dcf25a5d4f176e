/-
  One more is sent from a vertex: the program's send.
-/
import Derived.Test.YthfljimgpcignaaGreatDoorG13
import Derived.Test.YthfljimgpcignaaGreatDoorG10
import Derived.Test.YthfljimgpcignaaGreatDoorG14
import Derived.Test.YthfljimgpcignaaGreatDoorG16
namespace Go.Proofs.YthfljimgpcignaaGreatDoor
open Go.RowKit

/-- What is neither the flow's block nor the pointers'. -/
def TP (fb nb b : Nat) : Prop := b ≠ fb ∧ b ≠ nb
/-- A tide in memory. -/
structure TideM (N : Nat) (E : Edg) (A B : List Bool) (off : List Int) (ev sv dv : Value) (us : List Value) (p tb ab ob nb fb : Nat) (w : World) (f nx : List Int) : Prop where
  web : WebS (TP fb nb) w p N E A B ev sv dv (.slice (some ⟨fb, 0, none⟩) E.length E.length) ab us
  t : Blk w tb #[pt p, .slice (some ⟨ob, 0, none⟩) N N, .slice (some ⟨nb, 0, none⟩) N N] 128
  tp : TP fb nb tb
  o : Blk w ob (numI off) 3
  op : TP fb nb ob
  ol : off.length = N
  fk : Blk w fb (numI f) 3
  fl : f.length = E.length
  nk : Blk w nb (numI nx) 3
  nl : nx.length = N
  ne : fb ≠ nb
/-- What the pointer of v is. -/
def nxA (w : World) (nb v : Nat) : Nat := match w.cell? ⟨nb, v, none⟩ with
  | some (.int _ k) => k.toNat
  | _ => 0
section
variable {N : Nat} {E : Edg} {A B : List Bool} {off : List Int} {ev sv dv : Value} {us : List Value} {p tb ab ob nb fb : Nat} {w w' : World} {f nx : List Int} {v i : Nat}
theorem TideM.old (h : TideM N E A B off ev sv dv us p tb ab ob nb fb w f nx) (hb : Below w.heap.size w w') : TideM N E A B off ev sv dv us p tb ab ob nb fb w' f nx :=
  ⟨h.web.old hb, h.t.keep hb, h.tp, h.o.keep hb, h.op, h.ol, h.fk.keep hb, h.fl, h.nk.keep hb, h.nl, h.ne⟩
theorem TideM.setF (h : TideM N E A B off ev sv dv us p tb ab ob nb fb w f nx) (i : Nat) (y : Int) : TideM N E A B off ev sv dv us p tb ab ob nb fb (w.setCell ⟨fb, i, none⟩ (.int .i64 y)) (f.set i y) nx := by
  have hk : Keep (TP fb nb) w (w.setCell ⟨fb, i, none⟩ (.int .i64 y)) := (Keep.refl _ _).setCell (fun h => h.1 rfl) _ _
  refine ⟨h.web.keep hk, hk.blk h.t h.tp, h.tp, hk.blk h.o h.op, h.op, h.ol, ?_, by rw [List.length_set]; exact h.fl, h.nk.other _ _ (fun e => h.ne e.symm), h.nl, h.ne⟩
  have := h.fk.set i (.int .i64 y)
  rwa [numI_set] at this
theorem TideM.setN (h : TideM N E A B off ev sv dv us p tb ab ob nb fb w f nx) (i : Nat) (y : Int) : TideM N E A B off ev sv dv us p tb ab ob nb fb (w.setCell ⟨nb, i, none⟩ (.int .i64 y)) f (nx.set i y) := by
  have hk : Keep (TP fb nb) w (w.setCell ⟨nb, i, none⟩ (.int .i64 y)) := (Keep.refl _ _).setCell (fun h => h.2 rfl) _ _
  refine ⟨h.web.keep hk, hk.blk h.t h.tp, h.tp, hk.blk h.o h.op, h.op, h.ol, h.fk.other _ _ h.ne, h.fl, ?_, by rw [List.length_set]; exact h.nl, h.ne⟩
  have := h.nk.set i (.int .i64 y)
  rwa [numI_set] at this
theorem TideM.fc (h : TideM N E A B off ev sv dv us p tb ab ob nb fb w f nx) (hi : i < E.length) : w.cell? ⟨fb, i, none⟩ = some (.int .i64 (fL f i)) ∧ w.frozen? ⟨fb, i, none⟩ = false ∧ fb < w.heap.size := by
  have hl : i < f.length := by rw [h.fl]; exact hi
  refine ⟨?_, h.fk.free i, h.fk.lt⟩
  rw [show fL f i = f[i] from by simp [fL, hl]]
  exact h.fk.cell i (numI_at hl)
theorem TideM.nc (h : TideM N E A B off ev sv dv us p tb ab ob nb fb w f nx) (hv : v < N) : w.cell? ⟨nb, v, none⟩ = some (.int .i64 (nL nx v)) ∧ w.frozen? ⟨nb, v, none⟩ = false ∧ nb < w.heap.size := by
  have hl : v < nx.length := by rw [h.nl]; exact hv
  rw [nL_at hl]
  exact ⟨h.nk.cell v (numI_at hl), h.nk.free v, h.nk.lt⟩
theorem TideM.oc (h : TideM N E A B off ev sv dv us p tb ab ob nb fb w f nx) (hv : v < N) : w.cell? ⟨ob, v, none⟩ = some (.int .i64 (oL off v)) ∧ ob < w.heap.size := by
  have hl : v < off.length := by rw [h.ol]; exact hv
  rw [oL_at hl]
  exact ⟨h.o.cell v (numI_at hl), h.o.lt⟩
theorem TideM.ac (h : TideM N E A B off ev sv dv us p tb ab ob nb fb w f nx) (hv : v < N) : ∃ q c, us[v]? = some (.slice q (atL E v).length c) ∧ w.cell? ⟨ab, v, none⟩ = some (.slice q (atL E v).length c) ∧ ab < w.heap.size ∧ I64s w (.slice q (atL E v).length c) (atL E v) := by
  have hvu : v < us.length := by rw [h.web.ul]; exact hv
  have hus : us[v]? = some us[v] := List.getElem?_eq_getElem hvu
  have hi := (h.web.u v _ hus).1
  obtain ⟨q, c, e⟩ := hi.shape
  rw [e] at hi hus
  exact ⟨q, c, hus, h.web.b.cell v (by rw [List.getElem?_toArray]; exact hus), h.web.b.lt, hi⟩
theorem TideM.nxA (h : TideM N E A B off ev sv dv us p tb ab ob nb fb w f nx) (hv : v < N) : nxA w nb v = (nL nx v).toNat := by
  unfold Go.Proofs.YthfljimgpcignaaGreatDoor.nxA
  rw [(h.nc hv).1]
/-- What send answers. -/
def SendPost (N : Nat) (E : Edg) (A B : List Bool) (off : List Int) (ev sv dv : Value) (us : List Value) (p tb ab ob nb fb : Nat) (w : World) (f nx : List Int) (v : Nat) (e : Ending) (w' : World) : Prop :=
  ∃ b f' nx', e = .returned (.bool b) ∧ TideM N E A B off ev sv dv us p tb ab ob nb fb w' f' nx' ∧ Keep (TP fb nb) w w' ∧ NInv N E nx' ∧ NGrow N off nx nx' (oL off v) ∧ (b = true → SendQ N E (setB B) off v f f') ∧ (b = false → f' = f ∧ (DInv N E (setB B) off f nx → DInv N E (setB B) off f nx') ∧ Dead E (setB B) nx' v)
/-- The loop's head. -/
def SendRel (N : Nat) (E : Edg) (A B : List Bool) (off : List Int) (ev sv dv : Value) (us : List Value) (p tb ab ob nb fb : Nat) (w : World) (f nx : List Int) (v : Nat) (wr : World) : Prop :=
  ∃ nx', TideM N E A B off ev sv dv us p tb ab ob nb fb wr f nx' ∧ Keep (TP fb nb) w wr ∧ NInv N E nx' ∧ NGrow N off nx nx' (oL off v) ∧ (DInv N E (setB B) off f nx → DInv N E (setB B) off f nx')
set_option maxHeartbeats 8000000 in
set_option maxRecDepth 100000 in
theorem send_is (hoff : ∀ v, v < N → oL off v < N) : ∀ (m v : Nat) (f nx : List Int) (w : World), TideM N E A B off ev sv dv us p tb ab ob nb fb w f nx → FlOk E f → NInv N E nx → v < N → 0 ≤ oL off v → (N : Int) - oL off v ≤ m → Calls Tryz.prog 68 #[pt tb, .int .i64 v] w (SendPost N E A B off ev sv dv us p tb ab ob nb fb w f nx v) := by
  intro m
  induction m with
  | zero => exact fun v f nx w _ _ _ hv h0 hm => absurd (hoff v hv) (by omega)
  | succ m ih =>
    intro v f nx w hT hf hn hv h0 hm
    have HIH := Lib.hid ih
    have HT := Lib.hid hT
    have HF := Lib.hid hf
    have HN := Lib.hid hn
    have HM := Lib.hid hm
    have hob := hoff v hv
    have HOFF := Lib.hid hoff
    have hNN := hT.web.nn
    have hEN := hT.web.en
    obtain ⟨dq, dc, rfl⟩ := hT.web.d.shape
    obtain ⟨db, do_, rfl, hdc⟩ := hT.web.d.at (k := v) (by rw [hT.web.bl]; exact hv)
    rw [← setB_at (by rw [hT.web.bl]; exact hv)] at hdc
    have hdl := World.block_lt_of_cell? w _ hdc
    obtain ⟨t0, t1, t2, -⟩ := hT.t.o3
    have htl := hT.t.lt
    obtain ⟨x0, x1, x2, x3, x4, -, -, -, -, -⟩ := hT.web.k.o5
    have hpl := hT.web.k.lt
    have hvi : (v : Int) < (N : Int) := by omega
    have hvB : (v : Int) < (B.length : Int) := by rw [hT.web.bl]; exact hvi
    clear ih hT hf hn hm hoff
    go_enter Tryz.func68, Tryz.ntmps68
    cases hB : setB B v with
    | true =>
      rw [hB] at hdc
      have HP : Hid (SendPost N E A B off ev sv (.slice (some ⟨db, do_, none⟩) B.length dc) us p tb ab ob nb fb w f nx v (.returned (.bool true)) w) := Lib.hid ⟨true, f, nx, rfl, HT.out, Keep.refl _ _, HN.out, NGrow.refl _, fun _ => SendQ.here HF.out hv hB, fun h => (by cases h)⟩
      clear hB HIH
      go_wp2_with fail
      go_ret
      exact HP.out
    | false =>
      rw [hB] at hdc
      have HBV := Lib.hid hB
      have HR0 : Hid (SendRel N E A B off ev sv (.slice (some ⟨db, do_, none⟩) B.length dc) us p tb ab ob nb fb w f nx v w) := Lib.hid ⟨nx, HT.out, Keep.refl _ _, HN.out, NGrow.refl _, id⟩
      clear hB
      go_wp2_with fail
      clear hdc hdl t0 t1 t2 htl x0 x1 x2 x3 x4 hpl HT HN
      go_loopw [5, 6, 7] (fun _ _ _ wr => SendRel N E A B off ev sv (.slice (some ⟨db, do_, none⟩) B.length dc) us p tb ab ob nb fb w f nx v wr) (fun _ _ _ wr => (atL E v).length - nxA wr nb v)
      case atStart => exact HR0.out
      case round =>
        obtain ⟨nx1, hT, hk, hn, hg, hD⟩ := hrel
        obtain ⟨j, hj⟩ : ∃ j : Nat, nL nx1 v = j := ⟨(nL nx1 v).toNat, by have := (hn.bd v hv).1; omega⟩
        have hjb := (hn.bd v hv).2
        have hat := atTo_len E v E.length
        have hat2 : (atL E v).length ≤ 32768 := by show (atTo E E.length v).length ≤ _; omega
        have hmeas := hT.nxA hv
        have HMEAS := Lib.hid hmeas
        have HT1 := Lib.hid hT
        have HK1 := Lib.hid hk
        have HN1 := Lib.hid hn
        have HG1 := Lib.hid hg
        have HD1 := Lib.hid hD
        have HJ := Lib.hid hj
        obtain ⟨nc, nf, nl⟩ := hT.nc hv
        rw [hj] at nc hjb
        obtain ⟨rq, rc, hru, ac, al, hri⟩ := hT.ac hv
        obtain ⟨t0, t1, t2, -⟩ := hT.t.o3
        have htl := hT.t.lt
        obtain ⟨x0, x1, x2, x3, x4, -, -, -, -, -⟩ := hT.web.k.o5
        have hpl := hT.web.k.lt
        clear hT hk hn hg hD hj hmeas HR0 hat
        by_cases hlt : j < (atL E v).length
        case neg =>
          have hd9 : decide (j < (atL E v).length) = false := by simpa using hlt
          have HP : Hid (∀ n, SendPost N E A B off ev sv (.slice (some ⟨db, do_, none⟩) B.length dc) us p tb ab ob nb fb w f nx v (.returned (.bool false)) (wr.drewN n)) := Lib.hid fun n => ⟨false, f, nx1, rfl, HT1.out.old (below_drewN (Below.refl _ _) n), HK1.out.on ((below_drewN (Below.refl _ _) n).mono HK1.out.size), HN1.out, HG1.out, fun h => (by cases h), fun _ => ⟨rfl, HD1.out, by rw [HJ.out]; omega, HBV.out⟩⟩
          clear hlt hri
          go_wp2_with fail
          go_quiet (fail)
          go_wp2_with fail
          go_ret
          exact HP.out _
        have hji : (j : Int) < ((atL E v).length : Int) := by omega
        obtain ⟨i, hiE, hij, hiv⟩ := atTo_mem.1 (List.getElem_mem hlt)
        obtain ⟨b, o, rfl, hic⟩ := hri.at hlt
        have hil := World.block_lt_of_cell? wr _ hic
        have hij2 : (atL E v)[j]? = some (i : Int) := by rw [List.getElem?_eq_getElem hlt]; exact congrArg some hij
        rw [show (atL E v)[j] = (i : Int) from hij] at hic
        obtain ⟨x, y, hxy⟩ : ∃ x y, alongE E i v = (x, y) := ⟨_, _, rfl⟩
        have hx : x < N := by
          have := HT1.out.web.ein i hiE
          unfold alongE at hxy
          split at hxy
          · have := (Prod.mk.inj hxy).1; omega
          · have := (Prod.mk.inj hxy).1; omega
        have hy : y = 1 ∨ y = -1 := by
          unfold alongE at hxy
          split at hxy
          · exact Or.inl (Prod.mk.inj hxy).2.symm
          · exact Or.inr (Prod.mk.inj hxy).2.symm
        have HXY := Lib.hid hxy
        have HIJ := Lib.hid hij2
        have HIV := Lib.hid hiv
        have HIC := Lib.hid hic
        clear hri hij hij2 hxy hiv
        go_wp2_with fail
        go_quiet (fail)
        obtain ⟨w4, hw4⟩ := named (wr.drewN nq)
        have hb4 : Below wr.heap.size wr w4 := by rw [hw4]; exact below_drewN (Below.refl _ _) nq
        rw [← hw4]
        have HB4 := Lib.hid hb4
        clear nc nf nl ac al t0 t1 t2 htl x0 x1 x2 x3 x4 hpl hic hil
        have hT4 := HT1.out.old hb4
        obtain ⟨nc, -, nl⟩ := hT4.nc hv
        rw [HJ.out] at nc
        have ac := hT4.web.b.cell v (by rw [List.getElem?_toArray]; exact hru)
        have al := hT4.web.b.lt
        obtain ⟨t0, t1, t2, -⟩ := hT4.t.o3
        have htl := hT4.t.lt
        obtain ⟨x0, x1, x2, x3, x4, -, -, -, -, -⟩ := hT4.web.k.o5
        have hpl := hT4.web.k.lt
        have hic := keep hb4 HIC.out
        have hil := World.block_lt_of_cell? w4 _ hic
        clear hw4 hb4 hT4
        go_wp2_with fail
        go_quiet (fail)
        obtain ⟨w5, hw5⟩ := named (w4.drewN nq)
        have hb5 : Below w4.heap.size w4 w5 := by rw [hw5]; exact below_drewN (Below.refl _ _) nq
        rw [← hw5]
        have HB5 := Lib.hid (bOn6 HB4.out hb5)
        clear nc nl ac al t0 t1 t2 htl x0 x1 x2 x3 x4 hpl hic hil hw5 hb5 HB4
        have hT5 := HT1.out.old HB5.out
        obtain ⟨t0, t1, t2, -⟩ := hT5.t.o3
        have htl := hT5.t.lt
        obtain ⟨x0, x1, x2, x3, x4, -, -, -, -, -⟩ := hT5.web.k.o5
        have hpl := hT5.web.k.lt
        clear hT5
        go_wp2_with fail
        clear t0 t1 t2 htl x0 x1 x2 x3 x4 hpl
        refine (along_is (HT1.out.old HB5.out).web hiE HXY.out).mono ?_
        rintro e w6 ⟨rfl, hb6⟩
        have HB6 := Lib.hid (bOn6 HB5.out hb6)
        clear hb6 HB5
        have hob5 := HOFF.out x hx
        have HT6 := Lib.hid (HT1.out.old HB6.out)
        have HK6 := Lib.hid (HK1.out.on (HB6.out.mono HK1.out.size))
        have hwo : IntKind.i64.wrap (oL off v + 1) = oL off v + 1 := IntWalk.i64_in _ (by omega)
        have hwj : IntKind.i64.wrap ((j : Int) + 1) = (j : Int) + 1 := IntWalk.i64_in _ (by omega)
        have hxi : (x : Int) < (N : Int) := by omega
        have hii : (i : Int) < (E.length : Int) := by omega
        have HWO := Lib.hid hwo
        have HWJ := Lib.hid hwj
        have HX := Lib.hid hx
        have HIE := Lib.hid hiE
        clear hwj
        by_cases ho : oL off x = oL off v + 1
        · by_cases hne : fL f i = y
          · have hnb : (fL f i != y) = false := by simpa using hne
            have hnz : (oL off x == oL off v + 1) = true := by simpa using ho
            have hT6 := HT6.out
            obtain ⟨t0, t1, t2, -⟩ := hT6.t.o3
            have htl := hT6.t.lt
            obtain ⟨x0, x1, x2, x3, x4, -, -, -, -, -⟩ := hT6.web.k.o5
            have hpl := hT6.web.k.lt
            obtain ⟨oc, ol⟩ := hT6.oc HX.out
            obtain ⟨oc2, -⟩ := hT6.oc hv
            obtain ⟨fc, -, fl⟩ := hT6.fc HIE.out
            clear hT6
            go_wp2_with fail
            go_quiet (fail)
            obtain ⟨w7, hw7⟩ := named (w6.drewN nq)
            have hb7 : Below w6.heap.size w6 w7 := by rw [hw7]; exact below_drewN (Below.refl _ _) nq
            rw [← hw7]
            clear hw7 t0 t1 t2 htl x0 x1 x2 x3 x4 hpl oc ol oc2 fc fl
            have HJ9 := HJ
            have hT7 := HT6.out.old hb7
            obtain ⟨t0, t1, t2, -⟩ := hT7.t.o3
            have htl := hT7.t.lt
            obtain ⟨nc, nf, nl⟩ := hT7.nc hv
            rw [HJ.out] at nc
            have hT8 := hT7.setN v ((j : Int) + 1)
            have HR1 : Hid (SendRel N E A B off ev sv (.slice (some ⟨db, do_, none⟩) B.length dc) us p tb ab ob nb fb w f nx v (w7.setCell ⟨nb, v, none⟩ (.int .i64 ((j : Int) + 1)))) := Lib.hid ⟨nx1.set v ((j : Int) + 1), hT8, (HK6.out.on (hb7.mono HK6.out.size)).setCell (fun h => h.2 rfl) _ _, HN1.out.next hv HJ.out hlt, HG1.out.trans (NGrow.next HN1.out hv HJ.out), fun h => next_step HN1.out hv HJ.out HIJ.out HXY.out (HD1.out h) (fun h1 h2 => absurd hne h2)⟩
            have HM1 : Hid (nxA (w7.setCell ⟨nb, v, none⟩ (.int .i64 ((j : Int) + 1))) nb v = j + 1) := Lib.hid (by rw [hT8.nxA hv, nL_set (by rw [HN1.out.len]; exact hv), if_pos rfl]; omega)
            have hwj := HWJ.out
            clear hT7 hT8 hb7 HJ9
            go_wp2_with fail
            go_roundw
            case rel => exact HR1.out
            case measure => rw [HM1.out, HMEAS.out, HJ.out]; omega
          · have hT6 := HT6.out
            obtain ⟨t0, t1, t2, -⟩ := hT6.t.o3
            have htl := hT6.t.lt
            obtain ⟨x0, x1, x2, x3, x4, -, -, -, -, -⟩ := hT6.web.k.o5
            have hpl := hT6.web.k.lt
            obtain ⟨oc, ol⟩ := hT6.oc HX.out
            obtain ⟨oc2, -⟩ := hT6.oc hv
            obtain ⟨fc, -, fl⟩ := hT6.fc HIE.out
            clear hT6
            have HNE := Lib.hid hne
            have hnb : (fL f i != y) = true := by simpa using hne
            have HNB := Lib.hid hnb
            have HOX := Lib.hid ho
            have DS0 : Hid (GG.BelS w6 (fun _ => false) () w6.drew) := Lib.hid ⟨(Below.refl _ _).drew⟩
            clear t0 t1 t2 htl x0 x1 x2 x3 x4 hpl oc ol oc2 fc fl hne ho hnb
            go_wp2_with fail
            refine' GG.wp_thenL _ 33 (GG.BelS w6) [[], [0], [0, 1], [0, 1, 2], [], [0, 1, 2, 3, 4], [0, 1, 2, 3, 4, 5], [], [7], [7, 8], [7, 8, 9], [], [7, 8, 9, 10, 11], [7, 8, 9, 10, 11, 12], [7, 8, 9, 10, 11, 12, 13], [0, 1, 2, 3, 4, 5, 6, 7, 8, 9, 10, 11, 12, 13, 14], [0, 1, 2, 3, 4, 5, 6, 7, 8, 9, 10, 11, 12, 13, 14, 15], [0, 1, 2, 3, 4, 5, 6, 7, 8, 9, 10, 11, 12, 13, 14, 15, 16], [0, 1, 2, 3, 4, 5, 6, 7, 8, 9, 10, 11, 12, 13, 14, 15, 16, 17], [0, 1, 2, 3, 4, 5, 6, 7, 8, 9, 10, 11, 12, 13, 14, 15, 16, 17, 18], [0, 1, 2, 3, 4, 5, 6, 7, 8, 9, 10, 11, 12, 13, 14, 15, 16, 17, 18, 19], [0, 1, 2, 3, 4, 5, 6, 7, 8, 9, 10, 11, 12, 13, 14, 15, 16, 17, 18, 19, 20], [0, 1, 2, 3, 4, 5, 6, 7, 8, 9, 10, 11, 12, 13, 14, 15, 16, 17, 18, 19, 20, 21], [0, 1, 2, 3, 4, 5, 6, 7, 8, 9, 10, 11, 12, 13, 14, 15, 16, 17, 18, 19, 20, 21, 22], [0, 1, 2, 3, 4, 5, 6, 7, 8, 9, 10, 11, 12, 13, 14, 15, 16], [0, 1, 2, 3, 4, 5, 6, 7, 8, 9, 10, 11, 12, 13, 14, 15, 16, 17, 18, 19, 20, 21, 22, 23, 24], [0, 1, 2, 3, 4, 5, 6, 7, 8, 9, 10, 11, 12, 13, 14, 15, 16, 17, 18, 19, 20, 21, 22, 23, 24, 25], [0, 1, 2, 3, 4, 5, 6, 7, 8, 9, 10, 11, 12, 13, 14, 15, 16], [0, 1, 2, 3, 4, 5, 6, 7, 8, 9, 10, 11, 12, 13, 14, 15, 16, 17, 18, 19, 20, 21, 22, 23, 24, 25, 26, 27], [0, 1, 2, 3, 4, 5, 6, 7, 8, 9, 10, 11, 12, 13, 14, 15, 16, 17, 18, 19, 20, 21, 22, 23, 24, 25, 26, 27, 28], [0, 1, 2, 3, 4, 5, 6, 7, 8, 9, 10, 11, 12, 13, 14, 15, 16, 17, 18, 19, 20, 21, 22, 23, 24, 25, 26, 27, 28, 29], [0, 1, 2, 3, 4, 5, 6, 7, 8, 9, 10, 11, 12, 13, 14, 15, 16, 17, 18, 19, 20, 21, 22, 23, 24, 25, 26, 27, 28, 29, 30], [0, 1, 2, 3, 4, 5, 6, 7, 8, 9, 10, 11, 12, 13, 14, 15, 16, 17, 18, 19, 20, 21, 22, 23, 24, 25, 26, 27, 28, 29, 30]] (GG.Fact.lit (Rl := GG.RlB) _ :: GG.Fact.lit (Rl := GG.RlB) _ :: GG.Fact.lit (Rl := GG.RlB) _ :: GG.Fact.lit (Rl := GG.RlB) _ :: GG.Fact.lit (Rl := GG.RlB) _ :: GG.Fact.lit (Rl := GG.RlB) _ :: GG.Fact.lit (Rl := GG.RlB) _ :: GG.Fact.lit (Rl := GG.RlB) _ :: GG.Fact.lit (Rl := GG.RlB) _ :: GG.Fact.lit (Rl := GG.RlB) _ :: GG.Fact.lit (Rl := GG.RlB) _ :: GG.Fact.lit (Rl := GG.RlB) _ :: GG.Fact.lit (Rl := GG.RlB) _ :: GG.Fact.lit (Rl := GG.RlB) _ :: GG.Fact.lit (Rl := GG.RlB) _ :: GG.Fact.lit (Rl := GG.RlB) _ :: GG.Fact.lit (Rl := GG.RlB) _ :: GG.Fact.lit (Rl := GG.RlB) _ :: GG.Fact.lit (Rl := GG.RlB) _ :: GG.Fact.lit (Rl := GG.RlB) _ :: GG.Fact.lit (Rl := GG.RlB) _ :: GG.Fact.lit (Rl := GG.RlB) _ :: GG.Fact.lit (Rl := GG.RlB) _ :: GG.Fact.lit (Rl := GG.RlB) _ :: GG.Fact.lit (Rl := GG.RlB) _ :: GG.Fact.lit (Rl := GG.RlB) _ :: GG.Fact.lit (Rl := GG.RlB) _ :: GG.Fact.lit (Rl := GG.RlB) _ :: GG.Fact.lit (Rl := GG.RlB) _ :: GG.Fact.lit (Rl := GG.RlB) _ :: GG.Fact.lit (Rl := GG.RlB) _ :: GG.Fact.lit (Rl := GG.RlB) _ :: GG.Fact.lit (Rl := GG.RlB) _ :: []) (by kernel_rfl) rfl (by kernel_rfl) (()) (DS0.out) ?seqsd
            case' seqsd => skip
            (refine' GG.grow_lit (GG.BelS.still) rfl ?wtsd0 ?runsd0 ?putsd0 ?nextsd0; (case wtsd0 => rfl); (case runsd0 => (intro w' hS; (obtain ⟨dn, s, hS⟩ := hS); (have hT := HT6.out.old hS.b); (obtain ⟨t0, t1, t2, -⟩ := hT.t.o3); (have htl := hT.t.lt); (obtain ⟨x0, x1, x2, x3, x4, -, -, -, -, -⟩ := hT.web.k.o5); (have hpl := hT.web.k.lt); (obtain ⟨oc, ol⟩ := hT.oc HX.out); (obtain ⟨oc2, -⟩ := hT.oc hv); (obtain ⟨fc, -, fl⟩ := hT.fc HIE.out); (rw [HOX.out] at oc); (have hnb := HNB.out); clear hT hS; go_simp; first | done | exact rfl)); (case putsd0 => (first | (simp only [Act.put, List.setIfInBounds_toArray, List.set_cons_zero, List.set_cons_succ]; first | done | exact rfl) | rfl)); (case' nextsd0 => skip))
            (refine' GG.grow_lit (GG.BelS.still) rfl ?wtsd1 ?runsd1 ?putsd1 ?nextsd1; (case wtsd1 => rfl); (case runsd1 => (intro w' hS; (obtain ⟨dn, s, hS⟩ := hS); (have hT := HT6.out.old hS.b); (obtain ⟨t0, t1, t2, -⟩ := hT.t.o3); (have htl := hT.t.lt); (obtain ⟨x0, x1, x2, x3, x4, -, -, -, -, -⟩ := hT.web.k.o5); (have hpl := hT.web.k.lt); (obtain ⟨oc, ol⟩ := hT.oc HX.out); (obtain ⟨oc2, -⟩ := hT.oc hv); (obtain ⟨fc, -, fl⟩ := hT.fc HIE.out); (rw [HOX.out] at oc); (have hnb := HNB.out); clear hT hS; go_simp; first | done | exact rfl)); (case putsd1 => (first | (simp only [Act.put, List.setIfInBounds_toArray, List.set_cons_zero, List.set_cons_succ]; first | done | exact rfl) | rfl)); (case' nextsd1 => skip))
            (refine' GG.grow_lit (GG.BelS.still) rfl ?wtsd2 ?runsd2 ?putsd2 ?nextsd2; (case wtsd2 => rfl); (case runsd2 => (intro w' hS; (obtain ⟨dn, s, hS⟩ := hS); (have hT := HT6.out.old hS.b); (obtain ⟨t0, t1, t2, -⟩ := hT.t.o3); (have htl := hT.t.lt); (obtain ⟨x0, x1, x2, x3, x4, -, -, -, -, -⟩ := hT.web.k.o5); (have hpl := hT.web.k.lt); (obtain ⟨oc, ol⟩ := hT.oc HX.out); (obtain ⟨oc2, -⟩ := hT.oc hv); (obtain ⟨fc, -, fl⟩ := hT.fc HIE.out); (rw [HOX.out] at oc); (have hnb := HNB.out); clear hT hS; go_simp; first | done | exact rfl)); (case putsd2 => (first | (simp only [Act.put, List.setIfInBounds_toArray, List.set_cons_zero, List.set_cons_succ]; first | done | exact rfl) | rfl)); (case' nextsd2 => skip))
            (refine' GG.grow_lit (GG.BelS.still) rfl ?wtsd3 ?runsd3 ?putsd3 ?nextsd3; (case wtsd3 => rfl); (case runsd3 => (intro w' hS; (obtain ⟨dn, s, hS⟩ := hS); (have hT := HT6.out.old hS.b); (obtain ⟨t0, t1, t2, -⟩ := hT.t.o3); (have htl := hT.t.lt); (obtain ⟨x0, x1, x2, x3, x4, -, -, -, -, -⟩ := hT.web.k.o5); (have hpl := hT.web.k.lt); (obtain ⟨oc, ol⟩ := hT.oc HX.out); (obtain ⟨oc2, -⟩ := hT.oc hv); (obtain ⟨fc, -, fl⟩ := hT.fc HIE.out); (rw [HOX.out] at oc); (have hnb := HNB.out); clear hT hS; go_simp; first | done | exact rfl)); (case putsd3 => (first | (simp only [Act.put, List.setIfInBounds_toArray, List.set_cons_zero, List.set_cons_succ]; first | done | exact rfl) | rfl)); (case' nextsd3 => skip))
            (refine' GG.grow_lit (GG.BelS.still) rfl ?wtsd4 ?runsd4 ?putsd4 ?nextsd4; (case wtsd4 => rfl); (case runsd4 => (intro w' hS; (obtain ⟨dn, s, hS⟩ := hS); (have hT := HT6.out.old hS.b); (obtain ⟨t0, t1, t2, -⟩ := hT.t.o3); (have htl := hT.t.lt); (obtain ⟨x0, x1, x2, x3, x4, -, -, -, -, -⟩ := hT.web.k.o5); (have hpl := hT.web.k.lt); (obtain ⟨oc, ol⟩ := hT.oc HX.out); (obtain ⟨oc2, -⟩ := hT.oc hv); (obtain ⟨fc, -, fl⟩ := hT.fc HIE.out); (rw [HOX.out] at oc); (have hnb := HNB.out); clear hT hS; go_simp; first | done | exact rfl)); (case putsd4 => (first | (simp only [Act.put, List.setIfInBounds_toArray, List.set_cons_zero, List.set_cons_succ]; first | done | exact rfl) | rfl)); (case' nextsd4 => skip))
            (refine' GG.grow_lit (GG.BelS.still) rfl ?wtsd5 ?runsd5 ?putsd5 ?nextsd5; (case wtsd5 => rfl); (case runsd5 => (intro w' hS; (obtain ⟨dn, s, hS⟩ := hS); (have hT := HT6.out.old hS.b); (obtain ⟨t0, t1, t2, -⟩ := hT.t.o3); (have htl := hT.t.lt); (obtain ⟨x0, x1, x2, x3, x4, -, -, -, -, -⟩ := hT.web.k.o5); (have hpl := hT.web.k.lt); (obtain ⟨oc, ol⟩ := hT.oc HX.out); (obtain ⟨oc2, -⟩ := hT.oc hv); (obtain ⟨fc, -, fl⟩ := hT.fc HIE.out); (rw [HOX.out] at oc); (have hnb := HNB.out); clear hT hS; go_simp; first | done | exact rfl)); (case putsd5 => (first | (simp only [Act.put, List.setIfInBounds_toArray, List.set_cons_zero, List.set_cons_succ]; first | done | exact rfl) | rfl)); (case' nextsd5 => skip))
            (refine' GG.grow_lit (GG.BelS.still) rfl ?wtsd6 ?runsd6 ?putsd6 ?nextsd6; (case wtsd6 => rfl); (case runsd6 => (intro w' hS; (obtain ⟨dn, s, hS⟩ := hS); (have hT := HT6.out.old hS.b); (obtain ⟨t0, t1, t2, -⟩ := hT.t.o3); (have htl := hT.t.lt); (obtain ⟨x0, x1, x2, x3, x4, -, -, -, -, -⟩ := hT.web.k.o5); (have hpl := hT.web.k.lt); (obtain ⟨oc, ol⟩ := hT.oc HX.out); (obtain ⟨oc2, -⟩ := hT.oc hv); (obtain ⟨fc, -, fl⟩ := hT.fc HIE.out); (rw [HOX.out] at oc); (have hnb := HNB.out); clear hT hS; go_simp; first | done | exact rfl)); (case putsd6 => (first | (simp only [Act.put, List.setIfInBounds_toArray, List.set_cons_zero, List.set_cons_succ]; first | done | exact rfl) | rfl)); (case' nextsd6 => skip))
            (refine' GG.grow_lit (GG.BelS.still) rfl ?wtsd7 ?runsd7 ?putsd7 ?nextsd7; (case wtsd7 => rfl); (case runsd7 => (intro w' hS; (obtain ⟨dn, s, hS⟩ := hS); (have hT := HT6.out.old hS.b); (obtain ⟨t0, t1, t2, -⟩ := hT.t.o3); (have htl := hT.t.lt); (obtain ⟨x0, x1, x2, x3, x4, -, -, -, -, -⟩ := hT.web.k.o5); (have hpl := hT.web.k.lt); (obtain ⟨oc, ol⟩ := hT.oc HX.out); (obtain ⟨oc2, -⟩ := hT.oc hv); (obtain ⟨fc, -, fl⟩ := hT.fc HIE.out); (rw [HOX.out] at oc); (have hnb := HNB.out); clear hT hS; go_simp; first | done | exact rfl)); (case putsd7 => (first | (simp only [Act.put, List.setIfInBounds_toArray, List.set_cons_zero, List.set_cons_succ]; first | done | exact rfl) | rfl)); (case' nextsd7 => skip))
            (refine' GG.grow_lit (GG.BelS.still) rfl ?wtsd8 ?runsd8 ?putsd8 ?nextsd8; (case wtsd8 => rfl); (case runsd8 => (intro w' hS; (obtain ⟨dn, s, hS⟩ := hS); (have hT := HT6.out.old hS.b); (obtain ⟨t0, t1, t2, -⟩ := hT.t.o3); (have htl := hT.t.lt); (obtain ⟨x0, x1, x2, x3, x4, -, -, -, -, -⟩ := hT.web.k.o5); (have hpl := hT.web.k.lt); (obtain ⟨oc, ol⟩ := hT.oc HX.out); (obtain ⟨oc2, -⟩ := hT.oc hv); (obtain ⟨fc, -, fl⟩ := hT.fc HIE.out); (rw [HOX.out] at oc); (have hnb := HNB.out); clear hT hS; go_simp; first | done | exact rfl)); (case putsd8 => (first | (simp only [Act.put, List.setIfInBounds_toArray, List.set_cons_zero, List.set_cons_succ]; first | done | exact rfl) | rfl)); (case' nextsd8 => skip))
            (refine' GG.grow_lit (GG.BelS.still) rfl ?wtsd9 ?runsd9 ?putsd9 ?nextsd9; (case wtsd9 => rfl); (case runsd9 => (intro w' hS; (obtain ⟨dn, s, hS⟩ := hS); (have hT := HT6.out.old hS.b); (obtain ⟨t0, t1, t2, -⟩ := hT.t.o3); (have htl := hT.t.lt); (obtain ⟨x0, x1, x2, x3, x4, -, -, -, -, -⟩ := hT.web.k.o5); (have hpl := hT.web.k.lt); (obtain ⟨oc, ol⟩ := hT.oc HX.out); (obtain ⟨oc2, -⟩ := hT.oc hv); (obtain ⟨fc, -, fl⟩ := hT.fc HIE.out); (rw [HOX.out] at oc); (have hnb := HNB.out); clear hT hS; go_simp; first | done | exact rfl)); (case putsd9 => (first | (simp only [Act.put, List.setIfInBounds_toArray, List.set_cons_zero, List.set_cons_succ]; first | done | exact rfl) | rfl)); (case' nextsd9 => skip))
            (refine' GG.grow_lit (GG.BelS.still) rfl ?wtsd10 ?runsd10 ?putsd10 ?nextsd10; (case wtsd10 => rfl); (case runsd10 => (intro w' hS; (obtain ⟨dn, s, hS⟩ := hS); (have hT := HT6.out.old hS.b); (obtain ⟨t0, t1, t2, -⟩ := hT.t.o3); (have htl := hT.t.lt); (obtain ⟨x0, x1, x2, x3, x4, -, -, -, -, -⟩ := hT.web.k.o5); (have hpl := hT.web.k.lt); (obtain ⟨oc, ol⟩ := hT.oc HX.out); (obtain ⟨oc2, -⟩ := hT.oc hv); (obtain ⟨fc, -, fl⟩ := hT.fc HIE.out); (rw [HOX.out] at oc); (have hnb := HNB.out); clear hT hS; go_simp; first | done | exact rfl)); (case putsd10 => (first | (simp only [Act.put, List.setIfInBounds_toArray, List.set_cons_zero, List.set_cons_succ]; first | done | exact rfl) | rfl)); (case' nextsd10 => skip))
            (refine' GG.grow_lit (GG.BelS.still) rfl ?wtsd11 ?runsd11 ?putsd11 ?nextsd11; (case wtsd11 => rfl); (case runsd11 => (intro w' hS; (obtain ⟨dn, s, hS⟩ := hS); (have hT := HT6.out.old hS.b); (obtain ⟨t0, t1, t2, -⟩ := hT.t.o3); (have htl := hT.t.lt); (obtain ⟨x0, x1, x2, x3, x4, -, -, -, -, -⟩ := hT.web.k.o5); (have hpl := hT.web.k.lt); (obtain ⟨oc, ol⟩ := hT.oc HX.out); (obtain ⟨oc2, -⟩ := hT.oc hv); (obtain ⟨fc, -, fl⟩ := hT.fc HIE.out); (rw [HOX.out] at oc); (have hnb := HNB.out); clear hT hS; go_simp; first | done | exact rfl)); (case putsd11 => (first | (simp only [Act.put, List.setIfInBounds_toArray, List.set_cons_zero, List.set_cons_succ]; first | done | exact rfl) | rfl)); (case' nextsd11 => skip))
            (refine' GG.grow_lit (GG.BelS.still) rfl ?wtsd12 ?runsd12 ?putsd12 ?nextsd12; (case wtsd12 => rfl); (case runsd12 => (intro w' hS; (obtain ⟨dn, s, hS⟩ := hS); (have hT := HT6.out.old hS.b); (obtain ⟨t0, t1, t2, -⟩ := hT.t.o3); (have htl := hT.t.lt); (obtain ⟨x0, x1, x2, x3, x4, -, -, -, -, -⟩ := hT.web.k.o5); (have hpl := hT.web.k.lt); (obtain ⟨oc, ol⟩ := hT.oc HX.out); (obtain ⟨oc2, -⟩ := hT.oc hv); (obtain ⟨fc, -, fl⟩ := hT.fc HIE.out); (rw [HOX.out] at oc); (have hnb := HNB.out); clear hT hS; go_simp; first | done | exact rfl)); (case putsd12 => (first | (simp only [Act.put, List.setIfInBounds_toArray, List.set_cons_zero, List.set_cons_succ]; first | done | exact rfl) | rfl)); (case' nextsd12 => skip))
            (refine' GG.grow_lit (GG.BelS.still) rfl ?wtsd13 ?runsd13 ?putsd13 ?nextsd13; (case wtsd13 => rfl); (case runsd13 => (intro w' hS; (obtain ⟨dn, s, hS⟩ := hS); (have hT := HT6.out.old hS.b); (obtain ⟨t0, t1, t2, -⟩ := hT.t.o3); (have htl := hT.t.lt); (obtain ⟨x0, x1, x2, x3, x4, -, -, -, -, -⟩ := hT.web.k.o5); (have hpl := hT.web.k.lt); (obtain ⟨oc, ol⟩ := hT.oc HX.out); (obtain ⟨oc2, -⟩ := hT.oc hv); (obtain ⟨fc, -, fl⟩ := hT.fc HIE.out); (rw [HOX.out] at oc); (have hnb := HNB.out); clear hT hS; go_simp; first | done | exact rfl)); (case putsd13 => (first | (simp only [Act.put, List.setIfInBounds_toArray, List.set_cons_zero, List.set_cons_succ]; first | done | exact rfl) | rfl)); (case' nextsd13 => skip))
            (refine' GG.grow_lit (GG.BelS.still) rfl ?wtsd14 ?runsd14 ?putsd14 ?nextsd14; (case wtsd14 => rfl); (case runsd14 => (intro w' hS; (obtain ⟨dn, s, hS⟩ := hS); (have hT := HT6.out.old hS.b); (obtain ⟨t0, t1, t2, -⟩ := hT.t.o3); (have htl := hT.t.lt); (obtain ⟨x0, x1, x2, x3, x4, -, -, -, -, -⟩ := hT.web.k.o5); (have hpl := hT.web.k.lt); (obtain ⟨oc, ol⟩ := hT.oc HX.out); (obtain ⟨oc2, -⟩ := hT.oc hv); (obtain ⟨fc, -, fl⟩ := hT.fc HIE.out); (rw [HOX.out] at oc); (have hnb := HNB.out); clear hT hS; go_simp; first | done | exact rfl)); (case putsd14 => (first | (simp only [Act.put, List.setIfInBounds_toArray, List.set_cons_zero, List.set_cons_succ]; first | done | exact rfl) | rfl)); (case' nextsd14 => skip))
            (refine' GG.grow_lit (GG.BelS.still) rfl ?wtsd15 ?runsd15 ?putsd15 ?nextsd15; (case wtsd15 => rfl); (case runsd15 => (intro w' hS; (obtain ⟨dn, s, hS⟩ := hS); (have hT := HT6.out.old hS.b); (obtain ⟨t0, t1, t2, -⟩ := hT.t.o3); (have htl := hT.t.lt); (obtain ⟨x0, x1, x2, x3, x4, -, -, -, -, -⟩ := hT.web.k.o5); (have hpl := hT.web.k.lt); (obtain ⟨oc, ol⟩ := hT.oc HX.out); (obtain ⟨oc2, -⟩ := hT.oc hv); (obtain ⟨fc, -, fl⟩ := hT.fc HIE.out); (rw [HOX.out] at oc); (have hnb := HNB.out); clear hT hS; go_simp; first | done | exact rfl)); (case putsd15 => (first | (simp only [Act.put, List.setIfInBounds_toArray, List.set_cons_zero, List.set_cons_succ]; first | done | exact rfl) | rfl)); (case' nextsd15 => skip))
            (refine' GG.grow_lit (GG.BelS.still) rfl ?wtsd16 ?runsd16 ?putsd16 ?nextsd16; (case wtsd16 => rfl); (case runsd16 => (intro w' hS; (obtain ⟨dn, s, hS⟩ := hS); (have hT := HT6.out.old hS.b); (obtain ⟨t0, t1, t2, -⟩ := hT.t.o3); (have htl := hT.t.lt); (obtain ⟨x0, x1, x2, x3, x4, -, -, -, -, -⟩ := hT.web.k.o5); (have hpl := hT.web.k.lt); (obtain ⟨oc, ol⟩ := hT.oc HX.out); (obtain ⟨oc2, -⟩ := hT.oc hv); (obtain ⟨fc, -, fl⟩ := hT.fc HIE.out); (rw [HOX.out] at oc); (have hnb := HNB.out); clear hT hS; go_simp; first | done | exact rfl)); (case putsd16 => (first | (simp only [Act.put, List.setIfInBounds_toArray, List.set_cons_zero, List.set_cons_succ]; first | done | exact rfl) | rfl)); (case' nextsd16 => skip))
            (refine' GG.grow_lit (GG.BelS.still) rfl ?wtsd17 ?runsd17 ?putsd17 ?nextsd17; (case wtsd17 => rfl); (case runsd17 => (intro w' hS; (obtain ⟨dn, s, hS⟩ := hS); (have hT := HT6.out.old hS.b); (obtain ⟨t0, t1, t2, -⟩ := hT.t.o3); (have htl := hT.t.lt); (obtain ⟨x0, x1, x2, x3, x4, -, -, -, -, -⟩ := hT.web.k.o5); (have hpl := hT.web.k.lt); (obtain ⟨oc, ol⟩ := hT.oc HX.out); (obtain ⟨oc2, -⟩ := hT.oc hv); (obtain ⟨fc, -, fl⟩ := hT.fc HIE.out); (rw [HOX.out] at oc); (have hnb := HNB.out); clear hT hS; go_simp; first | done | exact rfl)); (case putsd17 => (first | (simp only [Act.put, List.setIfInBounds_toArray, List.set_cons_zero, List.set_cons_succ]; first | done | exact rfl) | rfl)); (case' nextsd17 => skip))
            (refine' GG.grow_lit (GG.BelS.still) rfl ?wtsd18 ?runsd18 ?putsd18 ?nextsd18; (case wtsd18 => rfl); (case runsd18 => (intro w' hS; (obtain ⟨dn, s, hS⟩ := hS); (have hT := HT6.out.old hS.b); (obtain ⟨t0, t1, t2, -⟩ := hT.t.o3); (have htl := hT.t.lt); (obtain ⟨x0, x1, x2, x3, x4, -, -, -, -, -⟩ := hT.web.k.o5); (have hpl := hT.web.k.lt); (obtain ⟨oc, ol⟩ := hT.oc HX.out); (obtain ⟨oc2, -⟩ := hT.oc hv); (obtain ⟨fc, -, fl⟩ := hT.fc HIE.out); (rw [HOX.out] at oc); (have hnb := HNB.out); clear hT hS; go_simp; first | done | exact rfl)); (case putsd18 => (first | (simp only [Act.put, List.setIfInBounds_toArray, List.set_cons_zero, List.set_cons_succ]; first | done | exact rfl) | rfl)); (case' nextsd18 => skip))
            (refine' GG.grow_lit (GG.BelS.still) rfl ?wtsd19 ?runsd19 ?putsd19 ?nextsd19; (case wtsd19 => rfl); (case runsd19 => (intro w' hS; (obtain ⟨dn, s, hS⟩ := hS); (have hT := HT6.out.old hS.b); (obtain ⟨t0, t1, t2, -⟩ := hT.t.o3); (have htl := hT.t.lt); (obtain ⟨x0, x1, x2, x3, x4, -, -, -, -, -⟩ := hT.web.k.o5); (have hpl := hT.web.k.lt); (obtain ⟨oc, ol⟩ := hT.oc HX.out); (obtain ⟨oc2, -⟩ := hT.oc hv); (obtain ⟨fc, -, fl⟩ := hT.fc HIE.out); (rw [HOX.out] at oc); (have hnb := HNB.out); clear hT hS; go_simp; first | done | exact rfl)); (case putsd19 => (first | (simp only [Act.put, List.setIfInBounds_toArray, List.set_cons_zero, List.set_cons_succ]; first | done | exact rfl) | rfl)); (case' nextsd19 => skip))
            (refine' GG.grow_lit (GG.BelS.still) rfl ?wtsd20 ?runsd20 ?putsd20 ?nextsd20; (case wtsd20 => rfl); (case runsd20 => (intro w' hS; (obtain ⟨dn, s, hS⟩ := hS); (have hT := HT6.out.old hS.b); (obtain ⟨t0, t1, t2, -⟩ := hT.t.o3); (have htl := hT.t.lt); (obtain ⟨x0, x1, x2, x3, x4, -, -, -, -, -⟩ := hT.web.k.o5); (have hpl := hT.web.k.lt); (obtain ⟨oc, ol⟩ := hT.oc HX.out); (obtain ⟨oc2, -⟩ := hT.oc hv); (obtain ⟨fc, -, fl⟩ := hT.fc HIE.out); (rw [HOX.out] at oc); (have hnb := HNB.out); clear hT hS; go_simp; first | done | exact rfl)); (case putsd20 => (first | (simp only [Act.put, List.setIfInBounds_toArray, List.set_cons_zero, List.set_cons_succ]; first | done | exact rfl) | rfl)); (case' nextsd20 => skip))
            (refine' GG.grow_lit (GG.BelS.still) rfl ?wtsd21 ?runsd21 ?putsd21 ?nextsd21; (case wtsd21 => rfl); (case runsd21 => (intro w' hS; (obtain ⟨dn, s, hS⟩ := hS); (have hT := HT6.out.old hS.b); (obtain ⟨t0, t1, t2, -⟩ := hT.t.o3); (have htl := hT.t.lt); (obtain ⟨x0, x1, x2, x3, x4, -, -, -, -, -⟩ := hT.web.k.o5); (have hpl := hT.web.k.lt); (obtain ⟨oc, ol⟩ := hT.oc HX.out); (obtain ⟨oc2, -⟩ := hT.oc hv); (obtain ⟨fc, -, fl⟩ := hT.fc HIE.out); (rw [HOX.out] at oc); (have hnb := HNB.out); clear hT hS; go_simp; first | done | exact rfl)); (case putsd21 => (first | (simp only [Act.put, List.setIfInBounds_toArray, List.set_cons_zero, List.set_cons_succ]; first | done | exact rfl) | rfl)); (case' nextsd21 => skip))
            (refine' GG.grow_lit (GG.BelS.still) rfl ?wtsd22 ?runsd22 ?putsd22 ?nextsd22; (case wtsd22 => rfl); (case runsd22 => (intro w' hS; (obtain ⟨dn, s, hS⟩ := hS); (have hT := HT6.out.old hS.b); (obtain ⟨t0, t1, t2, -⟩ := hT.t.o3); (have htl := hT.t.lt); (obtain ⟨x0, x1, x2, x3, x4, -, -, -, -, -⟩ := hT.web.k.o5); (have hpl := hT.web.k.lt); (obtain ⟨oc, ol⟩ := hT.oc HX.out); (obtain ⟨oc2, -⟩ := hT.oc hv); (obtain ⟨fc, -, fl⟩ := hT.fc HIE.out); (rw [HOX.out] at oc); (have hnb := HNB.out); clear hT hS; go_simp; first | done | exact rfl)); (case putsd22 => (first | (simp only [Act.put, List.setIfInBounds_toArray, List.set_cons_zero, List.set_cons_succ]; first | done | exact rfl) | rfl)); (case' nextsd22 => skip))
            (refine' GG.grow_lit (GG.BelS.still) rfl ?wtsd23 ?runsd23 ?putsd23 ?nextsd23; (case wtsd23 => rfl); (case runsd23 => (intro w' hS; (obtain ⟨dn, s, hS⟩ := hS); (have hT := HT6.out.old hS.b); (obtain ⟨t0, t1, t2, -⟩ := hT.t.o3); (have htl := hT.t.lt); (obtain ⟨x0, x1, x2, x3, x4, -, -, -, -, -⟩ := hT.web.k.o5); (have hpl := hT.web.k.lt); (obtain ⟨oc, ol⟩ := hT.oc HX.out); (obtain ⟨oc2, -⟩ := hT.oc hv); (obtain ⟨fc, -, fl⟩ := hT.fc HIE.out); (rw [HOX.out] at oc); (have hnb := HNB.out); clear hT hS; go_simp; first | done | exact rfl)); (case putsd23 => (first | (simp only [Act.put, List.setIfInBounds_toArray, List.set_cons_zero, List.set_cons_succ]; first | done | exact rfl) | rfl)); (case' nextsd23 => skip))
            (refine' GG.grow_lit (GG.BelS.still) rfl ?wtsd24 ?runsd24 ?putsd24 ?nextsd24; (case wtsd24 => rfl); (case runsd24 => (intro w' hS; (obtain ⟨dn, s, hS⟩ := hS); (have hT := HT6.out.old hS.b); (obtain ⟨t0, t1, t2, -⟩ := hT.t.o3); (have htl := hT.t.lt); (obtain ⟨x0, x1, x2, x3, x4, -, -, -, -, -⟩ := hT.web.k.o5); (have hpl := hT.web.k.lt); (obtain ⟨oc, ol⟩ := hT.oc HX.out); (obtain ⟨oc2, -⟩ := hT.oc hv); (obtain ⟨fc, -, fl⟩ := hT.fc HIE.out); (rw [HOX.out] at oc); (have hnb := HNB.out); clear hT hS; go_simp; first | done | exact rfl)); (case putsd24 => (first | (simp only [Act.put, List.setIfInBounds_toArray, List.set_cons_zero, List.set_cons_succ]; first | done | exact rfl) | rfl)); (case' nextsd24 => skip))
            (refine' GG.grow_lit (GG.BelS.still) rfl ?wtsd25 ?runsd25 ?putsd25 ?nextsd25; (case wtsd25 => rfl); (case runsd25 => (intro w' hS; (obtain ⟨dn, s, hS⟩ := hS); (have hT := HT6.out.old hS.b); (obtain ⟨t0, t1, t2, -⟩ := hT.t.o3); (have htl := hT.t.lt); (obtain ⟨x0, x1, x2, x3, x4, -, -, -, -, -⟩ := hT.web.k.o5); (have hpl := hT.web.k.lt); (obtain ⟨oc, ol⟩ := hT.oc HX.out); (obtain ⟨oc2, -⟩ := hT.oc hv); (obtain ⟨fc, -, fl⟩ := hT.fc HIE.out); (rw [HOX.out] at oc); (have hnb := HNB.out); clear hT hS; go_simp; first | done | exact rfl)); (case putsd25 => (first | (simp only [Act.put, List.setIfInBounds_toArray, List.set_cons_zero, List.set_cons_succ]; first | done | exact rfl) | rfl)); (case' nextsd25 => skip))
            (refine' GG.grow_lit (GG.BelS.still) rfl ?wtsd26 ?runsd26 ?putsd26 ?nextsd26; (case wtsd26 => rfl); (case runsd26 => (intro w' hS; (obtain ⟨dn, s, hS⟩ := hS); (have hT := HT6.out.old hS.b); (obtain ⟨t0, t1, t2, -⟩ := hT.t.o3); (have htl := hT.t.lt); (obtain ⟨x0, x1, x2, x3, x4, -, -, -, -, -⟩ := hT.web.k.o5); (have hpl := hT.web.k.lt); (obtain ⟨oc, ol⟩ := hT.oc HX.out); (obtain ⟨oc2, -⟩ := hT.oc hv); (obtain ⟨fc, -, fl⟩ := hT.fc HIE.out); (rw [HOX.out] at oc); (have hnb := HNB.out); clear hT hS; go_simp; first | done | exact rfl)); (case putsd26 => (first | (simp only [Act.put, List.setIfInBounds_toArray, List.set_cons_zero, List.set_cons_succ]; first | done | exact rfl) | rfl)); (case' nextsd26 => skip))
            (refine' GG.grow_lit (GG.BelS.still) rfl ?wtsd27 ?runsd27 ?putsd27 ?nextsd27; (case wtsd27 => rfl); (case runsd27 => (intro w' hS; (obtain ⟨dn, s, hS⟩ := hS); (have hT := HT6.out.old hS.b); (obtain ⟨t0, t1, t2, -⟩ := hT.t.o3); (have htl := hT.t.lt); (obtain ⟨x0, x1, x2, x3, x4, -, -, -, -, -⟩ := hT.web.k.o5); (have hpl := hT.web.k.lt); (obtain ⟨oc, ol⟩ := hT.oc HX.out); (obtain ⟨oc2, -⟩ := hT.oc hv); (obtain ⟨fc, -, fl⟩ := hT.fc HIE.out); (rw [HOX.out] at oc); (have hnb := HNB.out); clear hT hS; go_simp; first | done | exact rfl)); (case putsd27 => (first | (simp only [Act.put, List.setIfInBounds_toArray, List.set_cons_zero, List.set_cons_succ]; first | done | exact rfl) | rfl)); (case' nextsd27 => skip))
            (refine' GG.grow_lit (GG.BelS.still) rfl ?wtsd28 ?runsd28 ?putsd28 ?nextsd28; (case wtsd28 => rfl); (case runsd28 => (intro w' hS; (obtain ⟨dn, s, hS⟩ := hS); (have hT := HT6.out.old hS.b); (obtain ⟨t0, t1, t2, -⟩ := hT.t.o3); (have htl := hT.t.lt); (obtain ⟨x0, x1, x2, x3, x4, -, -, -, -, -⟩ := hT.web.k.o5); (have hpl := hT.web.k.lt); (obtain ⟨oc, ol⟩ := hT.oc HX.out); (obtain ⟨oc2, -⟩ := hT.oc hv); (obtain ⟨fc, -, fl⟩ := hT.fc HIE.out); (rw [HOX.out] at oc); (have hnb := HNB.out); clear hT hS; go_simp; first | done | exact rfl)); (case putsd28 => (first | (simp only [Act.put, List.setIfInBounds_toArray, List.set_cons_zero, List.set_cons_succ]; first | done | exact rfl) | rfl)); (case' nextsd28 => skip))
            (refine' GG.grow_lit (GG.BelS.still) rfl ?wtsd29 ?runsd29 ?putsd29 ?nextsd29; (case wtsd29 => rfl); (case runsd29 => (intro w' hS; (obtain ⟨dn, s, hS⟩ := hS); (have hT := HT6.out.old hS.b); (obtain ⟨t0, t1, t2, -⟩ := hT.t.o3); (have htl := hT.t.lt); (obtain ⟨x0, x1, x2, x3, x4, -, -, -, -, -⟩ := hT.web.k.o5); (have hpl := hT.web.k.lt); (obtain ⟨oc, ol⟩ := hT.oc HX.out); (obtain ⟨oc2, -⟩ := hT.oc hv); (obtain ⟨fc, -, fl⟩ := hT.fc HIE.out); (rw [HOX.out] at oc); (have hnb := HNB.out); clear hT hS; go_simp; first | done | exact rfl)); (case putsd29 => (first | (simp only [Act.put, List.setIfInBounds_toArray, List.set_cons_zero, List.set_cons_succ]; first | done | exact rfl) | rfl)); (case' nextsd29 => skip))
            (refine' GG.grow_lit (GG.BelS.still) rfl ?wtsd30 ?runsd30 ?putsd30 ?nextsd30; (case wtsd30 => rfl); (case runsd30 => (intro w' hS; (obtain ⟨dn, s, hS⟩ := hS); (have hT := HT6.out.old hS.b); (obtain ⟨t0, t1, t2, -⟩ := hT.t.o3); (have htl := hT.t.lt); (obtain ⟨x0, x1, x2, x3, x4, -, -, -, -, -⟩ := hT.web.k.o5); (have hpl := hT.web.k.lt); (obtain ⟨oc, ol⟩ := hT.oc HX.out); (obtain ⟨oc2, -⟩ := hT.oc hv); (obtain ⟨fc, -, fl⟩ := hT.fc HIE.out); (rw [HOX.out] at oc); (have hnb := HNB.out); clear hT hS; go_simp; first | done | exact rfl)); (case putsd30 => (first | (simp only [Act.put, List.setIfInBounds_toArray, List.set_cons_zero, List.set_cons_succ]; first | done | exact rfl) | rfl)); (case' nextsd30 => skip))
            (refine' GG.grow_lit (GG.BelS.still) rfl ?wtsd31 ?runsd31 ?putsd31 ?nextsd31; (case wtsd31 => rfl); (case runsd31 => (intro w' hS; (obtain ⟨dn, s, hS⟩ := hS); (have hT := HT6.out.old hS.b); (obtain ⟨t0, t1, t2, -⟩ := hT.t.o3); (have htl := hT.t.lt); (obtain ⟨x0, x1, x2, x3, x4, -, -, -, -, -⟩ := hT.web.k.o5); (have hpl := hT.web.k.lt); (obtain ⟨oc, ol⟩ := hT.oc HX.out); (obtain ⟨oc2, -⟩ := hT.oc hv); (obtain ⟨fc, -, fl⟩ := hT.fc HIE.out); (rw [HOX.out] at oc); (have hnb := HNB.out); clear hT hS; go_simp; first | done | exact rfl)); (case putsd31 => (first | (simp only [Act.put, List.setIfInBounds_toArray, List.set_cons_zero, List.set_cons_succ]; first | done | exact rfl) | rfl)); (case' nextsd31 => skip))
            (refine' GG.grow_lit (GG.BelS.still) rfl ?wtsd32 ?runsd32 ?putsd32 ?nextsd32; (case wtsd32 => rfl); (case runsd32 => (intro w' hS; (obtain ⟨dn, s, hS⟩ := hS); (have hT := HT6.out.old hS.b); (obtain ⟨t0, t1, t2, -⟩ := hT.t.o3); (have htl := hT.t.lt); (obtain ⟨x0, x1, x2, x3, x4, -, -, -, -, -⟩ := hT.web.k.o5); (have hpl := hT.web.k.lt); (obtain ⟨oc, ol⟩ := hT.oc HX.out); (obtain ⟨oc2, -⟩ := hT.oc hv); (obtain ⟨fc, -, fl⟩ := hT.fc HIE.out); (rw [HOX.out] at oc); (have hnb := HNB.out); clear hT hS; go_simp; first | done | exact rfl)); (case putsd32 => (first | (simp only [Act.put, List.setIfInBounds_toArray, List.set_cons_zero, List.set_cons_succ]; first | done | exact rfl) | rfl)); (case' nextsd32 => skip))
            intro dn s w7 hS _ _
            have HT7 := Lib.hid (HT6.out.old hS.b)
            have HK7 := Lib.hid (HK6.out.on (hS.b.mono HK6.out.size))
            clear hS DS0
            refine wpAny_ready (rs := [33]) (by kernel_rfl) (by simp) (AllReady.cons rfl (fun K hK => ?_) AllReady.nil)
            go_simp
            go_wp2_with (go_at_call 68; refine (HIH.out x f nx1 _ HT7.out HF.out HN1.out HX.out (by have := HOX.out; omega) (by have := HOX.out; have := HM.out; omega)).mono ?_; rintro e w8 ⟨b9, f9, nx9, rfl, hT8, hk8, hn8, hg8, hsq, hdd⟩)
            have HT8 := Lib.hid hT8
            have HK8 := Lib.hid (HK7.out.trans hk8)
            have HN8 := Lib.hid hn8
            have HG8 := Lib.hid (HG1.out.trans (hg8.mono (o' := oL off v) (by have := HOX.out; omega)))
            have HJ8 : Hid (nL nx9 v = j) := Lib.hid (by rw [hg8.2 v (by have := HOX.out; omega), HJ.out])
            have HSQ := Lib.hid hsq
            have HDD := Lib.hid hdd
            clear hT8 hk8 hn8 hg8 hsq hdd HT6 HT7 HK6 HK7
            refine wpAny_ready (rs := [34]) (by kernel_rfl) (by simp) (AllReady.cons rfl (fun K hK => ?_) AllReady.nil)
            go_simp
            refine hK _ _ ?_
            clear hK K
            refine wpAny_done (by kernel_rfl) ?_ _
            cases b9 with
            | true =>
              obtain ⟨hsame, hq⟩ := (HSQ.out rfl).step HF.out HIE.out HXY.out HIV.out HOX.out HNE.out
              obtain ⟨fc, ff, fl⟩ := HT8.out.fc HIE.out
              have hT9 := HT8.out.setF i (fL f9 i + y)
              have hwf : IntKind.i64.wrap (fL f9 i + y) = fL f9 i + y := IntWalk.i64_in _ (by have := HF.out.one i HIE.out; omega)
              have HP : Hid (SendPost N E A B off ev sv (.slice (some ⟨db, do_, none⟩) B.length dc) us p tb ab ob nb fb w f nx v (.returned (.bool true)) (w8.setCell ⟨fb, i, none⟩ (.int .i64 (fL f9 i + y)))) := Lib.hid ⟨true, _, nx9, rfl, hT9, HK8.out.setCell (fun h => h.1 rfl) _ _, HN8.out, HG8.out, fun _ => hq, fun h => (by cases h)⟩
              obtain ⟨t0, t1, t2, -⟩ := HT8.out.t.o3
              have htl := HT8.out.t.lt
              obtain ⟨x0, x1, x2, x3, x4, -, -, -, -, -⟩ := HT8.out.web.k.o5
              have hpl := HT8.out.web.k.lt
              clear hsame hq hT9 HSQ HDD
              go_wp2_with fail
              go_ret
              exact HP.out
            | false =>
              obtain ⟨hff, hdv, hdx⟩ := HDD.out rfl
              subst hff
              have hT9 := HT8.out.setN v ((j : Int) + 1)
              obtain ⟨nc, nf, nl⟩ := HT8.out.nc hv
              rw [HJ8.out] at nc
              obtain ⟨t0, t1, t2, -⟩ := HT8.out.t.o3
              have htl := HT8.out.t.lt
              have HR1 : Hid (SendRel N E A B off ev sv (.slice (some ⟨db, do_, none⟩) B.length dc) us p tb ab ob nb fb w f9 nx v (w8.setCell ⟨nb, v, none⟩ (.int .i64 ((j : Int) + 1)))) := Lib.hid ⟨nx9.set v ((j : Int) + 1), hT9, HK8.out.setCell (fun h => h.2 rfl) _ _, HN8.out.next hv HJ8.out hlt, HG8.out.trans (NGrow.next HN8.out hv HJ8.out), fun h => next_step HN8.out hv HJ8.out HIJ.out HXY.out (hdv (HD1.out h)) (fun _ _ => hdx)⟩
              have HM1 : Hid (nxA (w8.setCell ⟨nb, v, none⟩ (.int .i64 ((j : Int) + 1))) nb v = j + 1) := Lib.hid (by rw [hT9.nxA hv, nL_set (by rw [HN8.out.len]; exact hv), if_pos rfl]; omega)
              have hwj := HWJ.out
              clear hT9 hdv hdx HSQ HDD
              go_wp2_with fail
              go_roundw
              case rel => exact HR1.out
              case measure => rw [HM1.out, HMEAS.out, HJ.out]; omega
        · have hnz : (oL off x == oL off v + 1) = false := by simpa using ho
          have hT6 := HT6.out
          obtain ⟨t0, t1, t2, -⟩ := hT6.t.o3
          have htl := hT6.t.lt
          obtain ⟨x0, x1, x2, x3, x4, -, -, -, -, -⟩ := hT6.web.k.o5
          have hpl := hT6.web.k.lt
          obtain ⟨oc, ol⟩ := hT6.oc HX.out
          obtain ⟨oc2, -⟩ := hT6.oc hv
          obtain ⟨fc, -, fl⟩ := hT6.fc HIE.out
          clear hT6
          go_wp2_with fail
          go_quiet (fail)
          obtain ⟨w7, hw7⟩ := named (w6.drewN nq)
          have hb7 : Below w6.heap.size w6 w7 := by rw [hw7]; exact below_drewN (Below.refl _ _) nq
          rw [← hw7]
          clear hw7 t0 t1 t2 htl x0 x1 x2 x3 x4 hpl oc ol oc2 fc fl
          have HJ9 := HJ
          have hT7 := HT6.out.old hb7
          obtain ⟨t0, t1, t2, -⟩ := hT7.t.o3
          have htl := hT7.t.lt
          obtain ⟨nc, nf, nl⟩ := hT7.nc hv
          rw [HJ.out] at nc
          have hT8 := hT7.setN v ((j : Int) + 1)
          have HR1 : Hid (SendRel N E A B off ev sv (.slice (some ⟨db, do_, none⟩) B.length dc) us p tb ab ob nb fb w f nx v (w7.setCell ⟨nb, v, none⟩ (.int .i64 ((j : Int) + 1)))) := Lib.hid ⟨nx1.set v ((j : Int) + 1), hT8, (HK6.out.on (hb7.mono HK6.out.size)).setCell (fun h => h.2 rfl) _ _, HN1.out.next hv HJ.out hlt, HG1.out.trans (NGrow.next HN1.out hv HJ.out), fun h => next_step HN1.out hv HJ.out HIJ.out HXY.out (HD1.out h) (fun h1 h2 => absurd h1 ho)⟩
          have HM1 : Hid (nxA (w7.setCell ⟨nb, v, none⟩ (.int .i64 ((j : Int) + 1))) nb v = j + 1) := Lib.hid (by rw [hT8.nxA hv, nL_set (by rw [HN1.out.len]; exact hv), if_pos rfl]; omega)
          have hwj := HWJ.out
          clear hT7 hT8 hb7 HJ9
          go_wp2_with fail
          go_roundw
          case rel => exact HR1.out
          case measure => rw [HM1.out, HMEAS.out, HJ.out]; omega
end
end Go.Proofs.YthfljimgpcignaaGreatDoor

/-
  All ways of one length are filled: the program's fill.
-/
namespace Go.Proofs.YthfljimgpcignaaGreatDoor
open Go.RowKit

/-- A web whose flow may be written. -/
structure WebF (K xb N : Nat) (E : Edg) (A B : List Bool) (ev sv dv : Value) (us : List Value) (p ab fb : Nat) (w : World) (f : List Int) : Prop where
  web : WebS (fun b => b ≠ fb ∧ b ≠ xb ∧ b < K) w p N E A B ev sv dv (.slice (some ⟨fb, 0, none⟩) E.length E.length) ab us
  fk : Blk w fb (numI f) 3
  fl : f.length = E.length
  kw : K ≤ w.heap.size
/-- A region that makes memory: which operations have made which block. -/
structure GG.NamS (W : World) (_ : Nat → Bool) (s : List (Nat × Nat)) (w : World) : Prop where
  b : Below W.heap.size W w
  lt : ∀ x, x ∈ s → x.2 < w.heap.size
  inj : ∀ x y, x ∈ s → y ∈ s → x.2 = y.2 → x = y
def GG.RlN (s : List (Nat × Nat)) (w : World) (s' : List (Nat × Nat)) (w' : World) : Prop := Below w.heap.size w w' ∧ ∀ x, x ∈ s → x ∈ s'
section
variable {W w w' : World} {dn dn' : Nat → Bool} {s : List (Nat × Nat)}
theorem GG.NamS.same (h : GG.NamS W dn s w) (hb : Below w.heap.size w w') : GG.NamS W dn' s w' := ⟨bOn6 h.b hb, fun x hx => Nat.lt_of_lt_of_le (h.lt x hx) hb.size, h.inj⟩
theorem GG.NamS.still {i : Nat} : GG.Still (GG.NamS W) GG.RlN i := ⟨fun _ _ _ h => h.same (Below.refl _ _), fun _ _ => ⟨Below.refl _ _, fun _ h => h⟩⟩
theorem GG.NamS.add (h : GG.NamS W dn s w) (hb : Below w.heap.size w w') (k : Nat) {g : Nat} (hg : w.heap.size ≤ g) (hl : g < w'.heap.size) : GG.NamS W dn' ((k, g) :: s) w' := by
  refine ⟨bOn6 h.b hb, fun x hx => ?_, fun x y hx hy e => ?_⟩
  · rcases List.mem_cons.1 hx with rfl | hx
    · exact hl
    · exact Nat.lt_of_lt_of_le (h.lt x hx) hb.size
  · rcases List.mem_cons.1 hx with rfl | hx <;> rcases List.mem_cons.1 hy with rfl | hy
    · rfl
    · have := h.lt y hy
      simp only at e
      omega
    · have := h.lt x hx
      simp only at e
      omega
    · exact h.inj x y hx hy e
end
/-- A row that operation k has made, whole in a block. -/
def NamB (W : World) (k N : Nat) (Q : Array Value → Prop) (e : TypeId) (v : Value) (s : List (Nat × Nat)) (w : World) : Prop := ∃ b cs, v = .slice (some ⟨b, 0, none⟩) N N ∧ Blk w b cs e ∧ Q cs ∧ W.heap.size ≤ b ∧ (k, b) ∈ s
theorem NamB.st {W : World} {k N : Nat} {Q : Array Value → Prop} {e : TypeId} (v : Value) (s : List (Nat × Nat)) (w : World) (s' : List (Nat × Nat)) (w' : World) (h : NamB W k N Q e v s w) (hr : GG.RlN s w s' w') : NamB W k N Q e v s' w' := by
  obtain ⟨b, cs, e1, hk, hq, hl, hs⟩ := h
  exact ⟨b, cs, e1, hk.keep hr.1, hq, hl, hr.2 _ hs⟩
/-- A tide's value. -/
def NamT (W : World) (p N : Nat) (Q : List Int → Prop) (v : Value) (_ : List (Nat × Nat)) (w : World) : Prop := ∃ ob nb off, v = .agg #[pt p, .slice (some ⟨ob, 0, none⟩) N N, .slice (some ⟨nb, 0, none⟩) N N] ∧ Blk w ob (numI off) 3 ∧ Q off ∧ Blk w nb (List.replicate N (Value.int .i64 0)).toArray 3 ∧ W.heap.size ≤ ob ∧ W.heap.size ≤ nb ∧ ob ≠ nb
theorem NamT.st {W : World} {p N : Nat} {Q : List Int → Prop} (v : Value) (s : List (Nat × Nat)) (w : World) (s' : List (Nat × Nat)) (w' : World) (h : NamT W p N Q v s w) (hr : GG.RlN s w s' w') : NamT W p N Q v s' w' := by
  obtain ⟨ob, nb, off, e, h1, h2, h3, h4⟩ := h
  exact ⟨ob, nb, off, e, h1.keep hr.1, h2, h3.keep hr.1, h4⟩
def NamP (W : World) (k : Nat) (cs : Array Value) (e : TypeId) (v : Value) (s : List (Nat × Nat)) (w : World) : Prop := ∃ b, v = pt b ∧ Blk w b cs e ∧ W.heap.size ≤ b ∧ (k, b) ∈ s
theorem NamP.st {W : World} {k : Nat} {cs : Array Value} {e : TypeId} (v : Value) (s : List (Nat × Nat)) (w : World) (s' : List (Nat × Nat)) (w' : World) (h : NamP W k cs e v s w) (hr : GG.RlN s w s' w') : NamP W k cs e v s' w' := by
  obtain ⟨b, e1, hk, hl, hs⟩ := h
  exact ⟨b, e1, hk.keep hr.1, hl, hr.2 _ hs⟩
theorem Keep.pass {fb nb : Nat} {w W wr : World} (h : Below w.heap.size w W) (k : Keep (TP fb nb) W wr) (hn : w.heap.size ≤ nb) : Keep (fun b => b ≠ fb) w wr :=
  ⟨k.os.trans h.os, k.tape.trans h.tape, k.output.trans h.output, Nat.le_trans h.size k.size, fun b hb hp => (k.block b (Nat.lt_of_lt_of_le hb h.size) ⟨hp, by omega⟩).trans (h.block b hb)⟩
/-- What fill answers. -/
def FillPost (K xb N : Nat) (E : Edg) (A B : List Bool) (ev sv dv : Value) (us : List Value) (p ab fb : Nat) (w : World) (f : List Int) (e : Ending) (w' : World) : Prop :=
  ∃ (s : Nat) (f' : List Int), e = .returned (.int .i64 s) ∧ WebF K xb N E A B ev sv dv us p ab fb w' f' ∧ Keep (fun b => b ≠ fb) w w' ∧ IsFlow N E (setB A) (setB B) f' ∧ valF N E (setB A) f' = valF N E (setB A) f + s ∧ (s = 0 → f' = f ∧ ∀ v, v < N → setB B v = true → ¬ Rch E f 1 (setB A) v)
/-- The loops' head: k of the vertices are through. -/
def FillRel (N : Nat) (E : Edg) (A B : List Bool) (off : List Int) (ev sv dv : Value) (us : List Value) (p tb ab ob nb fb : Nat) (w : World) (f : List Int) (k : Nat) (sv9 : Value) (wr : World) : Prop :=
  ∃ (s : Nat) (f' nx : List Int), sv9 = .int .i64 s ∧ TideM N E A B off ev sv dv us p tb ab ob nb fb wr f' nx ∧ Keep (TP fb nb) w wr ∧ NInv N E nx ∧ IsFlow N E (setB A) (setB B) f' ∧ valF N E (setB A) f' = valF N E (setB A) f + s ∧ (s = 0 → f' = f ∧ DInv N E (setB B) off f nx ∧ ∀ v, v < k → setB A v = true → Dead E (setB B) nx v)
/-- The outer loop's head. -/
def FillOut (N : Nat) (E : Edg) (A B : List Bool) (off : List Int) (ev sv dv : Value) (us : List Value) (p tb ab ob nb fb : Nat) (w : World) (f : List Int) (sv9 iv : Value) (wr : World) : Prop :=
  ∃ k : Nat, k ≤ N ∧ iv = .int .i64 k ∧ FillRel N E A B off ev sv dv us p tb ab ob nb fb w f k sv9 wr
theorem IsFlow.ok {N : Nat} {E : Edg} {A B : VSet} {f : List Int} (h : IsFlow N E A B f) : FlOk E f := ⟨h.len, h.one, h.self⟩
theorem crossS_le (S : VSet) (E : Edg) : crossS S E ≤ E.length := by
  unfold crossS
  have h1 : sumN (fun i => b1 (S (eL E i).1 != S (eL E i).2)) E.length ≤ sumN (fun _ => 1) E.length := sumN_le fun i _ => by
    unfold b1
    split <;> omega
  have h2 : ∀ k, sumN (fun _ => 1) k = k := fun k => by
    induction k with
    | zero => rfl
    | succ k ih => unfold sumN; rw [ih]; omega
  rw [h2] at h1
  exact h1
/-- No more goes through than there are edges. -/
theorem val_most {N : Nat} {E : Edg} {A B : VSet} {f : List Int} (h : IsFlow N E A B f) (hE : EdgIn N E) (hAB : ∀ v, A v = true → B v = false) : valF N E A f ≤ E.length :=
  Int.le_trans (val_le h hE (S := A) ⟨fun _ _ h => h, fun v _ hb => by
    cases e : A v
    · rfl
    · have := hAB v e
      rw [hb] at this
      cases this⟩) (crossS_le A E)

section
variable {K xb N : Nat} {E : Edg} {A B : List Bool} {ev sv dv : Value} {us : List Value} {p ab fb : Nat} {w : World} {f : List Int}
set_option maxHeartbeats 8000000 in
set_option maxRecDepth 100000 in
theorem fill_is (h : WebF K xb N E A B ev sv dv us p ab fb w f) (hf : IsFlow N E (setB A) (setB B) f) (hAB : ∀ v, setB A v = true → setB B v = false) (h0 : 0 ≤ valF N E (setB A) f) :
    Calls Tryz.prog 53 #[pt p] w (FillPost K xb N E A B ev sv dv us p ab fb w f) := by
  have hnn := h.web.nn
  have hen := h.web.en
  have HW := Lib.hid h
  have HFI : Hid (I64s w (.slice (some ⟨fb, 0, none⟩) E.length E.length) f) := Lib.hid (i64s_of_blk h.fk h.fl (by omega))
  have HF := Lib.hid hf
  have HAB := Lib.hid hAB
  have hmk := fun W : World => RI.make1 W 39 3 (.int .i64 0) 8 rfl Tryz.underlying39 infoInt N (by omega) (by decide)
  have HMK := Lib.hid hmk
  obtain ⟨sq, sc, hsv⟩ := h.web.s.shape
  rw [h.web.al] at hsv
  subst hsv
  have HAL := Lib.hid h.web.al
  have DS0 : Hid (GG.NamS w (fun _ => false) [] w.drew) := Lib.hid ⟨(Below.refl _ _).drew, fun x h => (by cases h), fun x y h => (by cases h)⟩
  clear h hf hAB hmk
  go_enter Tryz.func53, Tryz.ntmps53
  go_wp2_with fail
  refine' GG.wp_thenL _ 15 (GG.NamS w) [[], [], [], [2], [2, 3], [2, 3, 4], [1, 2, 3, 4, 5], [], [7], [7, 8], [7, 8, 9], [7, 8, 9, 10], [7, 8, 9, 10, 11], [0, 1, 2, 3, 4, 5, 6, 7, 8, 9, 10, 11, 12], []] (GG.Fact.lit (Rl := GG.RlN) _ :: GG.Fact.lit (Rl := GG.RlN) _ :: GG.Fact.lit (Rl := GG.RlN) _ :: GG.Fact.lit (Rl := GG.RlN) _ :: GG.Fact.lit (Rl := GG.RlN) _ :: GG.Fact.lit (Rl := GG.RlN) _ :: GG.Fact.prop (Rl := GG.RlN) _ _ :: GG.Fact.lit (Rl := GG.RlN) _ :: GG.Fact.lit (Rl := GG.RlN) _ :: GG.Fact.lit (Rl := GG.RlN) _ :: GG.Fact.lit (Rl := GG.RlN) _ :: GG.Fact.lit (Rl := GG.RlN) _ :: GG.Fact.prop (Rl := GG.RlN) _ _ :: GG.Fact.prop (Rl := GG.RlN) _ _ :: GG.Fact.prop (Rl := GG.RlN) _ _ :: []) (by kernel_rfl) rfl (by kernel_rfl) ([]) (DS0.out) ?seqfi
  case' seqfi => skip
  (refine' GG.grow_lit (GG.NamS.still) rfl ?wtfi0 ?runfi0 ?putfi0 ?nextfi0; (case wtfi0 => rfl); (case runfi0 => (intro w' hS; (obtain ⟨dn, s, hS⟩ := hS); (obtain ⟨x0, x1, x2, x3, x4, -, -, -, -, -⟩ := (HW.out.web.old hS.b).k.o5); (have hpl := (HW.out.web.old hS.b).k.lt); clear hS; go_simp; first | done | exact rfl)); (case putfi0 => (first | (simp only [Act.put, List.setIfInBounds_toArray, List.set_cons_zero, List.set_cons_succ]; first | done | exact rfl) | rfl)); (case' nextfi0 => skip))
  (refine' GG.grow_lit (GG.NamS.still) rfl ?wtfi1 ?runfi1 ?putfi1 ?nextfi1; (case wtfi1 => rfl); (case runfi1 => (intro w' hS; (obtain ⟨dn, s, hS⟩ := hS); (obtain ⟨x0, x1, x2, x3, x4, -, -, -, -, -⟩ := (HW.out.web.old hS.b).k.o5); (have hpl := (HW.out.web.old hS.b).k.lt); clear hS; go_simp; first | done | exact rfl)); (case putfi1 => (first | (simp only [Act.put, List.setIfInBounds_toArray, List.set_cons_zero, List.set_cons_succ]; first | done | exact rfl) | rfl)); (case' nextfi1 => skip))
  (refine' GG.grow_lit (GG.NamS.still) rfl ?wtfi2 ?runfi2 ?putfi2 ?nextfi2; (case wtfi2 => rfl); (case runfi2 => (intro w' hS; (obtain ⟨dn, s, hS⟩ := hS); (obtain ⟨x0, x1, x2, x3, x4, -, -, -, -, -⟩ := (HW.out.web.old hS.b).k.o5); (have hpl := (HW.out.web.old hS.b).k.lt); clear hS; go_simp; first | done | exact rfl)); (case putfi2 => (first | (simp only [Act.put, List.setIfInBounds_toArray, List.set_cons_zero, List.set_cons_succ]; first | done | exact rfl) | rfl)); (case' nextfi2 => skip))
  (refine' GG.grow_lit (GG.NamS.still) rfl ?wtfi3 ?runfi3 ?putfi3 ?nextfi3; (case wtfi3 => rfl); (case runfi3 => (intro w' hS; (obtain ⟨dn, s, hS⟩ := hS); (obtain ⟨x0, x1, x2, x3, x4, -, -, -, -, -⟩ := (HW.out.web.old hS.b).k.o5); (have hpl := (HW.out.web.old hS.b).k.lt); clear hS; go_simp; first | done | exact rfl)); (case putfi3 => (first | (simp only [Act.put, List.setIfInBounds_toArray, List.set_cons_zero, List.set_cons_succ]; first | done | exact rfl) | rfl)); (case' nextfi3 => skip))
  (refine' GG.grow_lit (GG.NamS.still) rfl ?wtfi4 ?runfi4 ?putfi4 ?nextfi4; (case wtfi4 => rfl); (case runfi4 => (intro w' hS; (obtain ⟨dn, s, hS⟩ := hS); (obtain ⟨x0, x1, x2, x3, x4, -, -, -, -, -⟩ := (HW.out.web.old hS.b).k.o5); (have hpl := (HW.out.web.old hS.b).k.lt); clear hS; go_simp; first | done | exact rfl)); (case putfi4 => (first | (simp only [Act.put, List.setIfInBounds_toArray, List.set_cons_zero, List.set_cons_succ]; first | done | exact rfl) | rfl)); (case' nextfi4 => skip))
  (refine' GG.grow_lit (GG.NamS.still) rfl ?wtfi5 ?runfi5 ?putfi5 ?nextfi5; (case wtfi5 => rfl); (case runfi5 => (intro w' hS; (obtain ⟨dn, s, hS⟩ := hS); (obtain ⟨x0, x1, x2, x3, x4, -, -, -, -, -⟩ := (HW.out.web.old hS.b).k.o5); (have hpl := (HW.out.web.old hS.b).k.lt); clear hS; go_simp; first | done | exact rfl)); (case putfi5 => (first | (simp only [Act.put, List.setIfInBounds_toArray, List.set_cons_zero, List.set_cons_succ]; first | done | exact rfl) | rfl)); (case' nextfi5 => skip))
  (refine' GG.grow_any_call (p := NamB w 6 N (fun cs => ∃ off, cs = numI off ∧ LevQ N E f 1 (setB A) off) 3) (hp := NamB.st) rfl Tryz.func67 (by kernel_rfl) rfl rfl ?wtfi6 ?runfi6 ?putfi6 ?nextfi6; (case wtfi6 => rfl); (case runfi6 => (intro dn s w' hS hd H; exact (steps_is (HW.out.web.old hS.b) (HFI.out.below hS.b) HW.out.fl (HW.out.web.s.below hS.b) HAL.out (Or.inl rfl)).mono (fun e w2 ⟨ob, off, e1, hk, hl, hq, hb⟩ => ⟨_, (6, ob) :: s, e1, ⟨ob, _, rfl, hk, ⟨off, rfl, hq⟩, Nat.le_trans hS.b.size hl, List.mem_cons_self⟩, hS.add hb 6 hl hk.lt, ⟨hb, fun _ h => List.mem_cons_of_mem _ h⟩, hb.size⟩))); (case putfi6 => (intro v; (simp only [Act.put, List.setIfInBounds_toArray, List.set_cons_zero, List.set_cons_succ]; first | done | exact rfl))); (case' nextfi6 => intro v6))
  (refine' GG.grow_lit (GG.NamS.still) rfl ?wtfi7 ?runfi7 ?putfi7 ?nextfi7; (case wtfi7 => rfl); (case runfi7 => (intro w' hS; (obtain ⟨dn, s, hS⟩ := hS); (obtain ⟨x0, x1, x2, x3, x4, -, -, -, -, -⟩ := (HW.out.web.old hS.b).k.o5); (have hpl := (HW.out.web.old hS.b).k.lt); clear hS; go_simp; first | done | exact rfl)); (case putfi7 => (first | (simp only [Act.put, List.setIfInBounds_toArray, List.set_cons_zero, List.set_cons_succ]; first | done | exact rfl) | rfl)); (case' nextfi7 => skip))
  (refine' GG.grow_lit (GG.NamS.still) rfl ?wtfi8 ?runfi8 ?putfi8 ?nextfi8; (case wtfi8 => rfl); (case runfi8 => (intro w' hS; (obtain ⟨dn, s, hS⟩ := hS); (obtain ⟨x0, x1, x2, x3, x4, -, -, -, -, -⟩ := (HW.out.web.old hS.b).k.o5); (have hpl := (HW.out.web.old hS.b).k.lt); clear hS; go_simp; first | done | exact rfl)); (case putfi8 => (first | (simp only [Act.put, List.setIfInBounds_toArray, List.set_cons_zero, List.set_cons_succ]; first | done | exact rfl) | rfl)); (case' nextfi8 => skip))
  (refine' GG.grow_lit (GG.NamS.still) rfl ?wtfi9 ?runfi9 ?putfi9 ?nextfi9; (case wtfi9 => rfl); (case runfi9 => (intro w' hS; (obtain ⟨dn, s, hS⟩ := hS); (obtain ⟨x0, x1, x2, x3, x4, -, -, -, -, -⟩ := (HW.out.web.old hS.b).k.o5); (have hpl := (HW.out.web.old hS.b).k.lt); clear hS; go_simp; first | done | exact rfl)); (case putfi9 => (first | (simp only [Act.put, List.setIfInBounds_toArray, List.set_cons_zero, List.set_cons_succ]; first | done | exact rfl) | rfl)); (case' nextfi9 => skip))
  (refine' GG.grow_lit (GG.NamS.still) rfl ?wtfi10 ?runfi10 ?putfi10 ?nextfi10; (case wtfi10 => rfl); (case runfi10 => (intro w' hS; (obtain ⟨dn, s, hS⟩ := hS); (obtain ⟨x0, x1, x2, x3, x4, -, -, -, -, -⟩ := (HW.out.web.old hS.b).k.o5); (have hpl := (HW.out.web.old hS.b).k.lt); clear hS; go_simp; first | done | exact rfl)); (case putfi10 => (first | (simp only [Act.put, List.setIfInBounds_toArray, List.set_cons_zero, List.set_cons_succ]; first | done | exact rfl) | rfl)); (case' nextfi10 => skip))
  (refine' GG.grow_lit (GG.NamS.still) rfl ?wtfi11 ?runfi11 ?putfi11 ?nextfi11; (case wtfi11 => rfl); (case runfi11 => (intro w' hS; (obtain ⟨dn, s, hS⟩ := hS); (obtain ⟨x0, x1, x2, x3, x4, -, -, -, -, -⟩ := (HW.out.web.old hS.b).k.o5); (have hpl := (HW.out.web.old hS.b).k.lt); clear hS; go_simp; first | done | exact rfl)); (case putfi11 => (first | (simp only [Act.put, List.setIfInBounds_toArray, List.set_cons_zero, List.set_cons_succ]; first | done | exact rfl) | rfl)); (case' nextfi11 => skip))
  (refine' GG.grow_any_op (p := NamB w 12 N (fun cs => cs = (List.replicate N (Value.int .i64 0)).toArray) 3) (hp := NamB.st) rfl ?wtfi12 ?runfi12 ?putfi12 ?nextfi12; (case wtfi12 => rfl); (case runfi12 => (intro dn s w' hS hd H; (have hb := below_alloc1 (w := w') (.cells (List.replicate N (Value.int .i64 0)).toArray 3)); (have hm := HMK.out w'); refine ⟨_, (12, w'.heap.size) :: s, w'.alloc (.cells (List.replicate N (Value.int .i64 0)).toArray 3), ?_, ⟨w'.heap.size, _, rfl, Blk.new _ _ _ _ rfl, rfl, hS.b.size, List.mem_cons_self⟩, hS.add hb 12 (Nat.le_refl _) (by simp), ⟨hb, fun _ h => List.mem_cons_of_mem _ h⟩, hb.size⟩; (clear hS H; go_simp))); (case putfi12 => (intro v; (simp only [Act.put, List.setIfInBounds_toArray, List.set_cons_zero, List.set_cons_succ]; first | done | exact rfl))); (case' nextfi12 => intro v12))
  (refine' GG.grow_any_op (p := NamT w p N (LevQ N E f 1 (setB A))) (hp := NamT.st) rfl ?wtfi13 ?runfi13 ?putfi13 ?nextfi13; (case wtfi13 => rfl); (case runfi13 => (intro dn s w' hS hd H; (obtain ⟨b6, cs6, e6, k6, ⟨off, rfl, hq⟩, l6, s6⟩ := (show NamB w 6 N (fun cs => ∃ off, cs = numI off ∧ LevQ N E f 1 (setB A) off) 3 v6 s w' from H 6 (by decide))); (obtain ⟨b12, cs12, e12, k12, rfl, l12, s12⟩ := (show NamB w 12 N (fun cs => cs = (List.replicate N (Value.int .i64 0)).toArray) 3 v12 s w' from H 12 (by decide))); subst e6 e12; refine ⟨_, s, w', ?_, ⟨b6, b12, off, rfl, k6, hq, k12, l6, l12, (fun e => by have := hS.inj _ _ s6 s12 e; simp at this)⟩, hS.same (Below.refl _ _), ⟨Below.refl _ _, fun _ h => h⟩, Nat.le_refl _⟩; (clear hS H; go_simp; first | done | rfl))); (case putfi13 => (intro v; (simp only [Act.put, List.setIfInBounds_toArray, List.set_cons_zero, List.set_cons_succ]; first | done | exact rfl))); (case' nextfi13 => intro v13))
  (refine' GG.grow_any_op (p := NamP w 14 #[.pointer none, .slice none 0 0, .slice none 0 0] 128) (hp := NamP.st) rfl ?wtfi14 ?runfi14 ?putfi14 ?nextfi14; (case wtfi14 => rfl); (case runfi14 => (intro dn s w' hS hd H; (have hb := below_alloc1 (w := w') (.cells #[.pointer none, .slice none 0 0, .slice none 0 0] 128)); refine ⟨_, (14, w'.heap.size) :: s, w'.alloc (.cells #[.pointer none, .slice none 0 0, .slice none 0 0] 128), ?_, ⟨w'.heap.size, rfl, Blk.new _ _ _ _ rfl, hS.b.size, List.mem_cons_self⟩, hS.add hb 14 (Nat.le_refl _) (by simp), ⟨hb, fun _ h => List.mem_cons_of_mem _ h⟩, hb.size⟩; (clear hS H; go_simp))); (case putfi14 => (intro v; (simp only [Act.put, List.setIfInBounds_toArray, List.set_cons_zero, List.set_cons_succ]; first | done | exact rfl))); (case' nextfi14 => intro v14))
  intro dn s w1 hS _ hk
  obtain ⟨ob, nb, off, rfl, kob, hlev, knb, hob, hnb, hon⟩ : NamT w p N (LevQ N E f 1 (setB A)) v13 s w1 := hk 13 (by decide)
  obtain ⟨tb, rfl, ktb, htb, -⟩ : NamP w 14 #[.pointer none, .slice none 0 0, .slice none 0 0] 128 v14 s w1 := hk 14 (by decide)
  have htn := blk_ne ktb knb (by decide)
  have hto := blk_ne ktb kob (by decide)
  have HB1 := Lib.hid hS.b
  have KOB := Lib.hid kob
  have KNB := Lib.hid knb
  have KTB := Lib.hid ktb
  have HLO := Lib.hid (And.intro hob (And.intro hnb htb))
  have HNE := Lib.hid (And.intro hon (And.intro htn hto))
  have HLEV := Lib.hid hlev
  obtain ⟨t0, t1, t2, f0, f1, f2⟩ := ktb.o3
  have htl := ktb.lt
  clear hS hk kob knb hob hnb htb hlev ktb hon htn hto DS0
  refine wpAny_ready (rs := [15]) (by kernel_rfl) (by simp) (AllReady.cons rfl (fun K hK => ?_) AllReady.nil)
  go_simp
  refine hK _ _ ?_
  clear hK K
  refine wpAny_done (by kernel_rfl) ?_ _
  clear t0 t1 t2 f0 f1 f2 htl
  obtain ⟨W2, hW2⟩ := named (((w1.setCell ⟨tb, 0, none⟩ (pt p)).setCell ⟨tb, 1, none⟩ (.slice (some ⟨ob, 0, none⟩) N N)).setCell ⟨tb, 2, none⟩ (.slice (some ⟨nb, 0, none⟩) N N))
  rw [← hW2]
  have hlo := HLO.out
  have hne := HNE.out
  have kt2 : Blk W2 tb #[pt p, .slice (some ⟨ob, 0, none⟩) N N, .slice (some ⟨nb, 0, none⟩) N N] 128 := by
    rw [hW2]
    have := ((KTB.out.set 0 (pt p)).set 1 (.slice (some ⟨ob, 0, none⟩) N N)).set 2 (.slice (some ⟨nb, 0, none⟩) N N)
    simpa using this
  have ko2 : Blk W2 ob (numI off) 3 := by rw [hW2]; exact ((KOB.out.other _ _ (fun e => hne.2.2 e.symm)).other _ _ (fun e => hne.2.2 e.symm)).other _ _ (fun e => hne.2.2 e.symm)
  have kn2 : Blk W2 nb (numI (List.replicate N 0)) 3 := by rw [hW2, numI_rep]; exact ((KNB.out.other _ _ (fun e => hne.2.1 e.symm)).other _ _ (fun e => hne.2.1 e.symm)).other _ _ (fun e => hne.2.1 e.symm)
  have hb2 : Below w.heap.size w W2 := by rw [hW2]; exact ((HB1.out.setCell hlo.2.2 _).setCell hlo.2.2 _).setCell hlo.2.2 _
  have hfl := HW.out.fk.lt
  have hkw := HW.out.kw
  have HT2 : Hid (TideM N E A B off ev (.slice sq N sc) dv us p tb ab ob nb fb W2 f (List.replicate N 0)) := Lib.hid ⟨(HW.out.web.old hb2).mono (fun b h => ⟨h.1, by omega⟩), kt2, ⟨by omega, by omega⟩, ko2, ⟨by omega, hne.1⟩, HLEV.out.len, HW.out.fk.keep hb2, HW.out.fl, kn2, by simp, by omega⟩
  have HB2 := Lib.hid hb2
  have HN0 : Hid (NInv N E (List.replicate N 0)) := Lib.hid ⟨by simp, fun u hu => by rw [nL_at (by simpa using hu)]; simp⟩
  have HR0 : Hid (FillRel N E A B off ev (.slice sq N sc) dv us p tb ab ob nb fb W2 f 0 (.int .i64 (0 : Nat)) W2) := Lib.hid ⟨0, f, _, rfl, HT2.out, Keep.refl _ _, HN0.out, HF.out, by omega, fun _ => ⟨rfl, fun u j i x y hu hj => by rw [nL_at (by simpa using hu)] at hj; simp at hj; omega, fun v hv => by omega⟩⟩
  have HOFF : Hid (∀ v, v < N → oL off v < N) := Lib.hid fun v hv => by rcases HLEV.out.sgn v hv with h | h <;> omega
  obtain ⟨x0, x1, x2, x3, x4, -, -, -, -, -⟩ := HT2.out.web.k.o5
  have hpl := HT2.out.web.k.lt
  clear hW2 hlo kt2 ko2 kn2 hb2 hfl hkw KTB KOB KNB HB1 HFI
  go_wp2_with fail
  clear x0 x1 x2 x3 x4 hpl
  go_loopw [4, 5, 6, 26] (fun s9 _ _ iv wr => FillOut N E A B off ev (.slice sq N sc) dv us p tb ab ob nb fb W2 f s9 iv wr) (fun _ _ _ iv _ => N - (intOf iv).toNat)
  case atStart => exact ⟨0, Nat.zero_le _, rfl, HR0.out⟩
  case round =>
    obtain ⟨k, hk, rfl, hrel⟩ := hrel
    have HREL := Lib.hid hrel
    obtain ⟨s0, f0, nx0, rfl, hT, -⟩ := hrel
    by_cases hlt : k < N
    case neg =>
      obtain rfl : k = N := by omega
      obtain ⟨s1, f1, nx1, e1, hT1, hk1, hn1, hf1, hv1, hs1⟩ := HREL.out
      have hs01 : s0 = s1 := by injection e1 with _ e1; omega
      subst hs01
      have hkp := Keep.pass HB2.out hk1 HLO.out.2.1
      have HP : Hid (FillPost K xb k E A B ev (.slice sq k sc) dv us p ab fb w f (.returned (.int .i64 s0)) wr) := Lib.hid ⟨s0, f1, rfl, ⟨HW.out.web.keep (hkp.mono (fun b h => h.1)), hT1.fk, hT1.fl, Nat.le_trans HW.out.kw hkp.size⟩, hkp, hf1, hv1, fun h => by
        obtain ⟨h1, h2, h3⟩ := hs1 h
        exact ⟨h1, none_reached HLEV.out h2 (fun v hv ha => h3 v hv ha)⟩⟩
      clear hT1 hk1 hn1 hf1 hv1 hs1 hkp hT HR0 HREL
      go_wp2_with fail
      go_ret
      exact HP.out
    have hki : (k : Int) < (N : Int) := by omega
    obtain ⟨sb, so, rfl, scl⟩ := hT.web.s.at (k := k) (by rw [HAL.out]; exact hlt)
    rw [← setB_at] at scl
    have hsl := World.block_lt_of_cell? wr _ scl
    clear hT HR0
    cases hA : setB A k with
    | false =>
      rw [hA] at scl
      have HR1 : Hid (FillRel N E A B off ev (.slice (some ⟨sb, so, none⟩) N sc) dv us p tb ab ob nb fb W2 f (k + 1) (.int .i64 s0) wr) := Lib.hid (by
        obtain ⟨s1, f1, nx1, e1, hT1, hk1, hn1, hf1, hv1, hs1⟩ := HREL.out
        refine ⟨s1, f1, nx1, e1, hT1, hk1, hn1, hf1, hv1, fun h => ⟨(hs1 h).1, (hs1 h).2.1, fun v hv ha => ?_⟩⟩
        by_cases hvk : v < k
        · exact (hs1 h).2.2 v hvk ha
        · obtain rfl : v = k := by omega
          rw [hA] at ha
          cases ha)
      clear hA HREL
      go_wp2_with fail
      go_loopw [4] (fun s9 wr2 => s9 = .int .i64 s0 ∧ wr2 = wr) (fun _ _ => 0)
      case atStart => exact ⟨rfl, rfl⟩
      case round =>
        obtain ⟨rfl, rfl⟩ := hrel
        go_wp2_with fail
        go_roundw
        case rel => exact ⟨k + 1, hlt, by go_num, HR1.out⟩
        case measure => simp [intOf]; omega
    | true =>
      rw [hA] at scl
      have HA := Lib.hid hA
      have hkN : k < N := hlt
      have ho0 : 0 ≤ oL off k := by
        have h1 := HLEV.out.mark k hkN hA
        rcases HLEV.out.sgn k hkN with h | h <;> omega
      clear hA
      go_wp2_with fail
      clear scl hsl
      go_loopw [4] (fun s9 wr2 => FillRel N E A B off ev (.slice (some ⟨sb, so, none⟩) N sc) dv us p tb ab ob nb fb W2 f k s9 wr2) (fun s9 _ => E.length - (intOf s9).toNat)
      case atStart => exact HREL.out
      case round =>
        obtain ⟨s1, f1, nx1, rfl, hT1, hk1, hn1, hf1, hv1, hs1⟩ := hrel
        have HT1 := Lib.hid hT1
        have HK1 := Lib.hid hk1
        have HF1 := Lib.hid hf1
        have HV1 := Lib.hid hv1
        have HS1 := Lib.hid hs1
        have hEI := hT1.web.ein
        have hmost := val_most hf1 hEI HAB.out
        have HMOST : Hid (s1 ≤ E.length) := Lib.hid (by omega)
        have HEI := Lib.hid hEI
        have hwr : IntKind.i64.wrap ((s1 : Int) + 1) = ((s1 + 1 : Nat) : Int) := by rw [IntWalk.i64_in _ (by omega)]; omega
        have HSEND := Lib.hid (send_is HOFF.out N k f1 nx1 wr hT1 hf1.ok hn1 hkN ho0 (by omega))
        clear hT1 hk1 hn1 hf1 hv1 hs1 hmost hEI HREL
        go_wp2_with fail
        refine HSEND.out.mono ?_
        rintro e w5 ⟨b9, f9, nx9, rfl, hT9, hk9, hn9, hg9, hsq, hdd⟩
        cases b9 with
        | true =>
          have hq := hsq rfl
          obtain ⟨hfl9, hval⟩ := val_send HAB.out HF1.out hq hkN HA.out
          have hmost := val_most hfl9 HEI.out HAB.out
          have hv9 := HV1.out
          have HR1 : Hid (FillRel N E A B off ev (.slice (some ⟨sb, so, none⟩) N sc) dv us p tb ab ob nb fb W2 f k (.int .i64 ((s1 + 1 : Nat) : Int)) w5) := Lib.hid ⟨s1 + 1, f9, nx9, rfl, hT9, HK1.out.trans hk9, hn9, hfl9, by rw [hval, hv9]; omega, fun h => by omega⟩
          have HM1 : Hid (s1 < E.length) := Lib.hid (by omega)
          clear hT9 hk9 hn9 hg9 hsq hdd hq hfl9 hval hmost hv9 HSEND
          go_wp2_with fail
          go_roundw
          case rel => exact HR1.out
          case measure => have := HM1.out; simp [intOf]; omega
        | false =>
          obtain ⟨hff, hdv, hdx⟩ := hdd rfl
          subst hff
          have HR1 : Hid (FillRel N E A B off ev (.slice (some ⟨sb, so, none⟩) N sc) dv us p tb ab ob nb fb W2 f (k + 1) (.int .i64 s1) w5) := Lib.hid ⟨s1, f9, nx9, rfl, hT9, HK1.out.trans hk9, hn9, HF1.out, HV1.out, fun h => by
            obtain ⟨h1, h2, h3⟩ := HS1.out h
            subst h1
            refine ⟨rfl, hdv h2, fun v hv ha => ?_⟩
            by_cases hvk : v < k
            · exact (h3 v hvk ha).grow (by omega) hn9 hg9.1
            · obtain rfl : v = k := by omega
              exact hdx⟩
          clear hT9 hk9 hn9 hg9 hsq hdd hdv hdx HSEND
          go_wp2_with fail
          go_roundw
          case rel => exact ⟨k + 1, hlt, by go_num, HR1.out⟩
          case measure => simp [intOf]; omega
end
end Go.Proofs.YthfljimgpcignaaGreatDoor

/-
  A flow of the greatest value: the program's Max.
-/
namespace Go.Proofs.YthfljimgpcignaaGreatDoor
open Go.RowKit

/-- What Max answers, of what may be handed in but for a vertex in both sets. -/
def MaxPost (w : World) (N : Nat) (E : Edg) (S D : List Nat) (e : Ending) (w' : World) : Prop :=
  Below w.heap.size w w' ∧ ((¬ Twice (zN S) (zN D) ∧ ∃ V f near far fv nv gv, e = .returned (.tuple #[.agg #[.int .i64 V, fv, nv, gv], .nilIface]) ∧ I64s w' fv f ∧ Bools w' nv near ∧ Bools w' gv far ∧ PrvQ N E S D V f near far) ∨
    (Twice (zN S) (zN D) ∧ ∃ g, e = .returned (.tuple #[.agg #[.int .i64 0, .slice none 0 0, .slice none 0 0, .slice none 0 0], .iface 60 (pt g)]) ∧ FaultAt w' g ⟨#[102, 108, 111, 119]⟩ 2 6))
/-- .. and both sides lie in blocks that were made. -/
def MaxPostF (w : World) (N : Nat) (E : Edg) (S D : List Nat) (e : Ending) (w' : World) : Prop :=
  Below w.heap.size w w' ∧ ((¬ Twice (zN S) (zN D) ∧ ∃ V f near far fv nv gv, e = .returned (.tuple #[.agg #[.int .i64 V, fv, nv, gv], .nilIface]) ∧ I64s w' fv f ∧ Bools w' nv near ∧ Bools w' gv far ∧ PrvQ N E S D V f near far ∧ Av (fun b => w.heap.size ≤ b) nv ∧ Av (fun b => w.heap.size ≤ b) gv) ∨
    (Twice (zN S) (zN D) ∧ ∃ g, e = .returned (.tuple #[.agg #[.int .i64 0, .slice none 0 0, .slice none 0 0, .slice none 0 0], .iface 60 (pt g)]) ∧ FaultAt w' g ⟨#[102, 108, 111, 119]⟩ 2 6))
theorem MaxPostF.to {w w' : World} {N : Nat} {E : Edg} {S D : List Nat} {e : Ending} (h : MaxPostF w N E S D e w') : MaxPost w N E S D e w' := by
  obtain ⟨hb, h | h⟩ := h
  · obtain ⟨ht, V, f, near, far, fv, nv, gv, he, h1, h2, h3, h4, -, -⟩ := h
    exact ⟨hb, Or.inl ⟨ht, V, f, near, far, fv, nv, gv, he, h1, h2, h3, h4⟩⟩
  · exact ⟨hb, Or.inr h⟩
theorem WebS.bound {P : Nat → Prop} {w : World} {p N : Nat} {E : Edg} {A B : List Bool} {ev sv dv fv : Value} {ab : Nat} {us : List Value} (h : WebS P w p N E A B ev sv dv fv ab us) : WebS (fun b => P b ∧ b < w.heap.size) w p N E A B ev sv dv fv ab us := by
  have both : ∀ {v : Value}, Av P v → Av (fun b => b < w.heap.size) v → Av (fun b => P b ∧ b < w.heap.size) v := fun h1 h2 b o s n c e h0 => ⟨h1 b o s n c e h0, h2 b o s n c e h0⟩
  exact ⟨h.k, ⟨h.p, h.k.lt⟩, h.e, both h.ea h.e.av, h.b, ⟨h.bp, h.b.lt⟩, h.ul, fun i u hu => ⟨(h.u i u hu).1, both (h.u i u hu).2 (h.u i u hu).1.av⟩, h.s, both h.sa h.s.av, h.d, both h.da h.d.av, h.al, h.bl, h.ein, h.nn, h.en⟩
theorem Blk.set4 {w : World} {b : Nat} {t : TypeId} {x0 x1 x2 x3 : Value} (h : Blk w b #[x0, x1, x2, x3] t) (y0 y1 y2 y3 : Value) : Blk ((((w.setCell ⟨b, 0, none⟩ y0).setCell ⟨b, 1, none⟩ y1).setCell ⟨b, 2, none⟩ y2).setCell ⟨b, 3, none⟩ y3) b #[y0, y1, y2, y3] t := by
  have := (((h.set 0 y0).set 1 y1).set 2 y2).set 3 y3
  simpa using this
theorem Keep.set4 {P : Nat → Prop} (w : World) {b : Nat} (hb : ¬ P b) (y0 y1 y2 y3 : Value) : Keep P w ((((w.setCell ⟨b, 0, none⟩ y0).setCell ⟨b, 1, none⟩ y1).setCell ⟨b, 2, none⟩ y2).setCell ⟨b, 3, none⟩ y3) :=
  ((((Keep.refl _ _).setCell hb _ _).setCell hb _ _).setCell hb _ _).setCell hb _ _
/-- The loop's head. -/
def MaxRel (K N : Nat) (E : Edg) (A B : List Bool) (ev sv dv : Value) (us : List Value) (p ab fb rb : Nat) (w : World) (s9 : Value) (wr : World) : Prop :=
  ∃ (V s : Nat) (f : List Int), s9 = .int .i64 s ∧ WebF K rb N E A B ev sv dv us p ab fb wr f ∧ Blk wr rb #[.int .i64 V, .slice (some ⟨fb, 0, none⟩) E.length E.length, .slice none 0 0, .slice none 0 0] 72 ∧ Keep (fun b => b ≠ fb ∧ b ≠ rb) w wr ∧ IsFlow N E (setB A) (setB B) f ∧ valF N E (setB A) f = V + s ∧ (s = 0 → ∀ v, v < N → setB B v = true → ¬ Rch E f 1 (setB A) v)
theorem fL_rep (k i : Nat) : fL (List.replicate k 0) i = 0 := by
  unfold fL
  rw [List.getD_eq_getElem?_getD, List.getElem?_replicate]
  split <;> rfl
theorem netF_zero (E : Edg) (k v : Nat) : netF E (List.replicate k 0) v = 0 := by
  unfold netF
  rw [sumN_congr (h := fun _ => 0) fun i _ => by rw [fL_rep]; simp]
  exact sumN_zero _
theorem flow_zero (N : Nat) (E : Edg) (A B : VSet) : IsFlow N E A B (List.replicate E.length 0) ∧ valF N E A (List.replicate E.length 0) = 0 := by
  refine ⟨⟨by simp, fun i _ => by rw [fL_rep]; omega, fun i _ _ => fL_rep _ _, fun v _ _ _ => netF_zero _ _ _⟩, ?_⟩
  unfold valF
  rw [sumN_congr (h := fun _ => 0) fun v _ => by rw [netF_zero]; simp]
  exact sumN_zero _
section
variable {w : World} {N : Nat} {E : Edg} {S D : List Nat} {ev sv dv : Value}
set_option maxHeartbeats 8000000 in
set_option maxRecDepth 100000 in
theorem maxF_is (he : Prs w ev (zE E)) (hs : I64s w sv (zN S)) (hd : I64s w dv (zN D)) (hn : N ≤ 4096) (hl : E.length ≤ 16384) (hsl : S.length ≤ 1000000) (hdl : D.length ≤ 1000000) (hok : OkA N (zE E) (zN S) (zN D)) (hEI : EdgIn N E) (hS : ∀ x, x ∈ S → x < N) (hD : ∀ x, x ∈ D → x < N) :
    Calls Tryz.prog 35 #[.int .i64 N, ev, sv, dv] w (MaxPostF w N E S D) := by
  obtain ⟨eq0, ec0, rfl⟩ := he.shape
  rw [zE_len] at he
  rw [zE_len]
  obtain ⟨W0, hW0⟩ := named (w.alloc (.cells #[.int .i64 0, .slice none 0 0, .slice none 0 0, .slice none 0 0] 72))
  have hb0 : Below w.heap.size w W0 := by rw [hW0]; exact below_alloc1 _
  obtain ⟨qb, hqb⟩ : ∃ qb, w.heap.size = qb := ⟨_, rfl⟩
  have kq : Blk W0 qb #[.int .i64 0, .slice none 0 0, .slice none 0 0, .slice none 0 0] 72 := by rw [hW0]; exact Blk.new _ _ _ _ hqb
  have HE := Lib.hid (he.below hb0)
  have HS := Lib.hid (hs.below hb0)
  have HD := Lib.hid (hd.below hb0)
  have HEAV := Lib.hid he.av
  have HB0 := Lib.hid hb0
  have KQ := Lib.hid kq
  have HQB := Lib.hid hqb
  have HOK := Lib.hid hok
  have HEI := Lib.hid hEI
  have HSN := Lib.hid hS
  have HDN := Lib.hid hD
  have HL := Lib.hid hl
  have e0 := hW0.symm
  clear he hs hd hb0 kq hW0 hok hEI hS hD
  go_enter Tryz.func35, Tryz.ntmps35
  go_wp2_with fail
  clear e0
  refine (check_is HE.out HS.out HD.out (by omega) (by rw [zE_len]; exact HL.out) (by rw [zN_len]; exact hsl) (by rw [zN_len]; exact hdl)).mono ?_
  rintro e w1 ⟨hb1, ⟨-, htw, rfl⟩ | ⟨-, htw, g, rfl, hfa⟩ | ⟨hno, -⟩⟩
  case inr.inr => exact absurd HOK.out hno
  case inr.inl =>
    have hk1 := KQ.out.keep hb1
    obtain ⟨c0, c1, c2, c3, f0, f1, f2, f3⟩ := hk1.o4
    have hql := hk1.lt
    have HK1 := Lib.hid hk1
    have HFA := Lib.hid hfa
    have HTW := Lib.hid htw
    have HB1 := Lib.hid (bOn6 HB0.out hb1)
    clear hb1 hk1 hfa htw
    go_wp2_with fail
    have hkw := HK1.out.set4 (.int .i64 0) (.slice none 0 0) (.slice none 0 0) (.slice none 0 0)
    have hkp := Keep.set4 (P := fun b => b ≠ qb) w1 (b := qb) (by simp) (.int .i64 0) (.slice none 0 0) (.slice none 0 0) (.slice none 0 0)
    obtain ⟨w9, hw9⟩ := named ((((w1.setCell ⟨qb, 0, none⟩ (.int .i64 0)).setCell ⟨qb, 1, none⟩ (.slice none 0 0)).setCell ⟨qb, 2, none⟩ (.slice none 0 0)).setCell ⟨qb, 3, none⟩ (.slice none 0 0))
    rw [← hw9] at hkw hkp
    rw [← hw9]
    have hgq : g ≠ qb := blk_ne HFA.out HK1.out (by decide)
    have HP : Hid (MaxPostF w N E S D (.returned (.tuple #[.agg #[.int .i64 0, .slice none 0 0, .slice none 0 0, .slice none 0 0], .iface 60 (pt g)])) w9) := Lib.hid ⟨HB1.out.trans (hkp.below (fun b hb => by have := HQB.out; omega) HB1.out.size), Or.inr ⟨HTW.out, g, rfl, hkp.blk HFA.out hgq⟩⟩
    obtain ⟨r0, r1, r2, r3, -⟩ := hkw.o4
    clear hkw hkp hw9 hgq
    exact bodyPost_ret (v := .tuple #[.agg #[.int .i64 0, .slice none 0 0, .slice none 0 0, .slice none 0 0], .iface 60 (pt g)]) (by simp [results, Tryz.results35, go_sem, r0, r1, r2, r3]) rfl HP.out
  have hE1 : Prs w1 (.slice eq0 E.length ec0) (zE E) := HE.out.below hb1
  have HTW := Lib.hid htw
  have HB1 := Lib.hid (bOn6 HB0.out hb1)
  have KQ1 := Lib.hid (KQ.out.keep hb1)
  have HS1 := HS.out.below hb1
  have HD1 := HD.out.below hb1
  obtain ⟨fb, hfb⟩ : ∃ fb, w1.heap.size = fb := ⟨_, rfl⟩
  have hmk := RI.make1 w1 39 3 (.int .i64 0) 8 rfl Tryz.underlying39 infoInt E.length HL.out (by decide)
  obtain ⟨w2, hw2⟩ := named (w1.alloc (.cells (List.replicate E.length (.int .i64 0)).toArray 3))
  have hb2 : Below w1.heap.size w1 w2 := by rw [hw2]; exact below_alloc1 _
  have kf2 : Blk w2 fb (numI (List.replicate E.length 0)) 3 := by rw [hw2, numI_rep]; exact Blk.new _ _ _ _ hfb
  rw [← hw2, hfb] at hmk
  obtain ⟨w3, hw3⟩ := named (w2.alloc (.cells #[.int .i64 0, .slice (some ⟨fb, 0, none⟩) E.length E.length, .slice none 0 0, .slice none 0 0] 72))
  have hb3 : Below w2.heap.size w2 w3 := by rw [hw3]; exact below_alloc1 _
  obtain ⟨rb, hrb⟩ : ∃ rb, w2.heap.size = rb := ⟨_, rfl⟩
  have kr3 : Blk w3 rb #[.int .i64 0, .slice (some ⟨fb, 0, none⟩) E.length E.length, .slice none 0 0, .slice none 0 0] 72 := by rw [hw3]; exact Blk.new _ _ _ _ hrb
  have hb13 := bOn6 hb2 hb3
  have hz : w.heap.size ≤ fb ∧ fb < rb ∧ rb < w3.heap.size ∧ w.heap.size ≤ w1.heap.size ∧ qb < fb := ⟨by have := HB1.out.size; omega, by have := kf2.lt; omega, kr3.lt, HB1.out.size, by have := KQ1.out.lt; omega⟩
  have HZ := Lib.hid hz
  have HE3 := Lib.hid (hE1.below hb13)
  have HS3 := Lib.hid (HS1.below hb13)
  have HD3 := Lib.hid (HD1.below hb13)
  have KQ3 := Lib.hid (KQ1.out.keep hb13)
  have KF3 := Lib.hid (kf2.keep hb3)
  have KR3 := Lib.hid kr3
  have HB3 := Lib.hid (bOn6 HB1.out hb13)
  have HW3 := Lib.hid hw3
  clear hb1 htw hE1 HE HS HD HS1 HD1 KQ KQ1 HB0 hfb hw2 hb2 kf2 hw3 hb3 kr3 hb13
  go_wp2_with fail
  rw [← HW3.out]
  clear HW3 hmk hrb
  have HFN : Hid (fb < w3.heap.size ∧ rb ≠ fb ∧ qb ≠ fb ∧ qb ≠ rb) := Lib.hid (by omega)
  refine (webOf_is (P := fun b => b ≠ fb ∧ b ≠ rb) HE3.out (HEAV.out.mono fun b hb => by have := HZ.out; omega) HEI.out hn HL.out HS3.out HSN.out hsl HD3.out HDN.out hdl ⟨_, _, _, rfl⟩ (fun b hb => by have := HFN.out; omega)).mono ?_
  rintro e w4 ⟨p, ab, us, sv2, dv2, rfl, hw, -, -, hb4⟩
  have hz4 := hb4.size
  have HA : Hid (∀ v, setB (markL N S) v = true → setB (markL N D) v = false) := Lib.hid fun v hv => by
    have hvN : v < N := by have := setB_lt hv; rwa [markL_len] at this
    rw [markL_in hvN] at hv
    rw [markL_in hvN]
    simp only [decide_eq_true_eq] at hv
    refine decide_eq_false fun hvd => HTW.out ⟨v, zN_mem.2 ⟨v, hv, rfl⟩, zN_mem.2 ⟨v, hvd, rfl⟩⟩
  obtain ⟨hf0, hv0⟩ := flow_zero N E (setB (markL N S)) (setB (markL N D))
  have HWF : Hid (WebF w4.heap.size rb N E (markL N S) (markL N D) (.slice eq0 E.length ec0) sv2 dv2 us p ab fb w4 (List.replicate E.length 0)) := Lib.hid ⟨hw.bound.mono (fun b h => ⟨h.1.1, h.1.2, h.2⟩), KF3.out.keep hb4, by simp, Nat.le_refl _⟩
  have HB4 := Lib.hid (bOn6 HB3.out hb4)
  have KR4 := Lib.hid (KR3.out.keep hb4)
  have KQ4 := Lib.hid (KQ3.out.keep hb4)
  have HF0 := Lib.hid hf0
  have HV0 := Lib.hid hv0
  clear hw hb4 hf0 hv0 HE3 HS3 HD3 KQ3 KF3 KR3 HB3
  go_wp2_with fail
  refine (fill_is HWF.out HF0.out HA.out (by rw [HV0.out]; omega)).mono ?_
  rintro e w5 ⟨s5, f5, rfl, hw5, hk5, hf5, hv5, hs5⟩
  have HR5 : Hid (MaxRel w4.heap.size N E (markL N S) (markL N D) (.slice eq0 E.length ec0) sv2 dv2 us p ab fb rb w4 (.int .i64 s5) w5) := Lib.hid ⟨0, s5, f5, rfl, hw5, hk5.blk KR4.out HFN.out.2.1, hk5.mono (fun b h => h.1), hf5, by rw [hv5, HV0.out]; rfl, fun h => by
    obtain ⟨h1, h2⟩ := hs5 h
    subst h1
    exact h2⟩
  clear hw5 hk5 hf5 hv5 hs5
  go_wp2_with fail
  go_loopw [13] (fun s9 wr => MaxRel w4.heap.size N E (markL N S) (markL N D) (.slice eq0 E.length ec0) sv2 dv2 us p ab fb rb w4 s9 wr) (fun _ wr => E.length - nxA wr rb 0)
  case atStart => exact HR5.out
  case round =>
    obtain ⟨V, s, f, rfl, hw, hr, hk, hf, hv, hs⟩ := hrel
    clear HR5
    have hmost := val_most hf hw.web.ein HA.out
    have HNX : Hid (nxA wr rb 0 = V) := Lib.hid (by unfold nxA; rw [hr.o4.1]; simp)
    obtain ⟨c0, c1, c2, c3, f0, f1, f2, f3⟩ := hr.o4
    have hrl := hr.lt
    have HEN := Lib.hid hw.web.en
    by_cases h0 : 0 < s
    · have hd9 : decide ((0 : Int) < (s : Int)) = true := by simpa using h0
      have hwv : IntKind.i64.wrap ((V : Int) + (s : Int)) = (V : Int) + (s : Int) := by have := HEN.out; rw [IntWalk.i64_in _ (by omega)]
      have hr2 := hr.set 0 (.int .i64 ((V : Int) + (s : Int)))
      obtain ⟨w6, hw6⟩ := named (wr.setCell ⟨rb, 0, none⟩ (.int .i64 ((V : Int) + (s : Int))))
      have hkp : Keep (fun b => b ≠ rb) wr w6 := by rw [hw6]; exact (Keep.refl _ _).setCell (by simp) _ _
      rw [← hw6] at hr2
      have HR6 : Hid (Blk w6 rb #[.int .i64 ((V + s : Nat) : Int), .slice (some ⟨fb, 0, none⟩) E.length E.length, .slice none 0 0, .slice none 0 0] 72) := Lib.hid (by rw [Int.natCast_add]; simpa using hr2)
      have HW6 : Hid (WebF w4.heap.size rb N E (markL N S) (markL N D) (.slice eq0 E.length ec0) sv2 dv2 us p ab fb w6 f) := Lib.hid ⟨hw.web.keep (hkp.mono (fun b h => h.2.1)), hkp.blk hw.fk (fun e => HFN.out.2.1 e.symm), hw.fl, Nat.le_trans hw.kw hkp.size⟩
      have HK6 : Hid (Keep (fun b => b ≠ fb ∧ b ≠ rb) w4 w6) := Lib.hid (hk.trans (hkp.mono (fun b h => h.2)))
      have HF6 := Lib.hid hf
      have HV6 := Lib.hid hv
      have HM6 : Hid (V + s ≤ E.length) := Lib.hid (by omega)
      have e6 := hw6.symm
      clear hr2 hkp hw6 hw hr hk hf hv hs hmost
      go_wp2_with fail
      refine (fill_is HW6.out HF6.out HA.out (by rw [HV6.out]; omega)).mono ?_
      rintro e w7 ⟨s7, f7, rfl, hw7, hk7, hf7, hv7, hs7⟩
      have hr7 := hk7.blk HR6.out HFN.out.2.1
      have HR7 : Hid (MaxRel w4.heap.size N E (markL N S) (markL N D) (.slice eq0 E.length ec0) sv2 dv2 us p ab fb rb w4 (.int .i64 s7) w7) := Lib.hid ⟨V + s, s7, f7, rfl, hw7, hr7, HK6.out.trans (hk7.mono (fun b h => h.1)), hf7, by rw [hv7, HV6.out]; omega, fun h => by
        obtain ⟨h1, h2⟩ := hs7 h
        subst h1
        exact h2⟩
      have HN7 : Hid (nxA w7 rb 0 = V + s) := Lib.hid (by unfold nxA; rw [hr7.o4.1]; simp; omega)
      clear hw7 hk7 hf7 hv7 hs7 hr7 e6
      go_wp2_with fail
      go_roundw
      case rel => exact HR7.out
      case measure => have := HM6.out; rw [HN7.out, HNX.out]; omega
    · obtain rfl : s = 0 := by omega
      have hsub : (E.length : Int) ≤ 16384 := by have := HEN.out; omega
      have HW6 := Lib.hid hw
      have HR6 := Lib.hid hr
      have HK6 := Lib.hid hk
      have HF6 := Lib.hid hf
      have HV6 := Lib.hid hv
      have HS6 := Lib.hid (hs rfl)
      have HFI : Hid (I64s wr (.slice (some ⟨fb, 0, none⟩) E.length E.length) f) := Lib.hid (i64s_of_blk hw.fk hw.fl (by omega))
      clear hw hr hk hf hv hs hmost c0 c1 c2 c3 f0 f1 f2 f3 hrl
      go_wp2_with fail
      refine (sides_is HW6.out.web HFI.out HW6.out.fl).mono ?_
      rintro e w7 ⟨nv7, gv7, near, far, rfl, hn7, hg7, hnl, hgl, hnr, hgr, hb7, han, hag⟩
      obtain ⟨nq7, nc7, rfl⟩ := hn7.shape
      obtain ⟨gq7, gc7, rfl⟩ := hg7.shape
      have hr7 := HR6.out.keep hb7
      have hk47 := HK6.out.on (hb7.mono HK6.out.size)
      have hq7 : Blk w7 qb #[.int .i64 0, .slice none 0 0, .slice none 0 0, .slice none 0 0] 72 := hk47.blk KQ4.out HFN.out.2.2
      have hfi7 := HFI.out.below hb7
      have HPQ : Hid (PrvQ N E S D V f near far) := Lib.hid ⟨HF6.out, by have := HV6.out; omega, hnl, hgl, hnr, hgr, fun v hv => HS6.out v (HDN.out v hv) (by rw [markL_in (HDN.out v hv)]; simpa using hv)⟩
      obtain ⟨c0, c1, c2, c3, f0, f1, f2, f3⟩ := hr7.o4
      have hrl := hr7.lt
      have ha := hr7.set 2 (.slice nq7 near.length nc7)
      obtain ⟨wa, hwa⟩ := named (w7.setCell ⟨rb, 2, none⟩ (.slice nq7 near.length nc7))
      have hka : Keep (fun b => b ≠ rb) w7 wa := by rw [hwa]; exact (Keep.refl _ _).setCell (by simp) _ _
      rw [← hwa] at ha
      have ha' : Blk wa rb #[.int .i64 V, .slice (some ⟨fb, 0, none⟩) E.length E.length, .slice nq7 near.length nc7, .slice none 0 0] 72 := by simpa using ha
      have hb := ha'.set 3 (.slice gq7 far.length gc7)
      obtain ⟨wb, hwb⟩ := named (wa.setCell ⟨rb, 3, none⟩ (.slice gq7 far.length gc7))
      have hkb : Keep (fun b => b ≠ rb) w7 wb := by rw [hwb]; exact hka.setCell (by simp) _ _
      rw [← hwb] at hb
      have hb' : Blk wb rb #[.int .i64 V, .slice (some ⟨fb, 0, none⟩) E.length E.length, .slice nq7 near.length nc7, .slice gq7 far.length gc7] 72 := by simpa using hb
      obtain ⟨a0, a1, a2, a3, af0, af1, af2, af3⟩ := ha'.o4
      have hal := ha'.lt
      obtain ⟨b0, b1, b2, b3, -⟩ := hb'.o4
      have hbl := hb'.lt
      have hqb2 : Blk wb qb #[.int .i64 0, .slice none 0 0, .slice none 0 0, .slice none 0 0] 72 := hkb.blk hq7 HFN.out.2.2.2
      obtain ⟨d0, d1, d2, d3, g0, g1, g2, g3⟩ := hqb2.o4
      have hql := hqb2.lt
      have hqw := hqb2.set4 (.int .i64 V) (.slice (some ⟨fb, 0, none⟩) E.length E.length) (.slice nq7 near.length nc7) (.slice gq7 far.length gc7)
      have hkp := Keep.set4 (P := fun b => b ≠ qb) wb (b := qb) (by simp) (.int .i64 V) (.slice (some ⟨fb, 0, none⟩) E.length E.length) (.slice nq7 near.length nc7) (.slice gq7 far.length gc7)
      obtain ⟨w9, hw9⟩ := named ((((wb.setCell ⟨qb, 0, none⟩ (.int .i64 V)).setCell ⟨qb, 1, none⟩ (.slice (some ⟨fb, 0, none⟩) E.length E.length)).setCell ⟨qb, 2, none⟩ (.slice nq7 near.length nc7)).setCell ⟨qb, 3, none⟩ (.slice gq7 far.length gc7))
      rw [← hw9] at hqw hkp
      have hlo7 : ∀ b, wr.heap.size ≤ b → b ≠ rb ∧ b ≠ qb := fun b hb => by
        have h1 := HR6.out.lt
        have h2 := (HK6.out.blk KQ4.out HFN.out.2.2).lt
        omega
      have hlo8 : ∀ b, wr.heap.size ≤ b → w.heap.size ≤ b := fun b hb => by
        have h1 := HK6.out.size
        have h2 := HB4.out.size
        omega
      have hk79 : Keep (fun b => b ≠ rb ∧ b ≠ qb) w7 w9 := (hkb.mono (fun b h => h.1)).trans (hkp.mono (fun b h => h.2))
      have hk9 : Keep (fun b => b ≠ fb ∧ b ≠ rb ∧ b ≠ qb) w4 w9 := (hk47.mono (fun b h => ⟨h.1, h.2.1⟩)).trans (hk79.mono (fun b h => h.2))
      have HP : Hid (MaxPostF w N E S D (.returned (.tuple #[.agg #[.int .i64 V, .slice (some ⟨fb, 0, none⟩) E.length E.length, .slice nq7 near.length nc7, .slice gq7 far.length gc7], .nilIface])) w9) := Lib.hid ⟨HB4.out.trans (hk9.below (fun b hb => by have := HZ.out; have := HQB.out; omega) HB4.out.size), Or.inl ⟨HTW.out, V, f, near, far, _, _, _, rfl, hfi7.keep (P := fun b => b ≠ rb ∧ b ≠ qb) (Av.at ⟨fun e => HFN.out.2.1 e.symm, fun e => HFN.out.2.2.1 e.symm⟩) hk79, hn7.keep (han.mono hlo7) hk79, hg7.keep (hag.mono hlo7) hk79, HPQ.out, han.mono hlo8, hag.mono hlo8⟩⟩
      have ea := hwa.symm
      have eb := hwb.symm
      obtain ⟨r0, r1, r2, r3, -⟩ := hqw.o4
      clear hlo7 hlo8 hk79 hk9 hn7 hg7 han hag hnl hgl hnr hgr hb7 hr7 hk47 hq7 hfi7 ha ha' hka hb hb' hkb hwa hwb hqb2 hqw hkp
      go_wp2_with fail
      rw [← hw9]
      exact bodyPost_ret (v := .tuple #[.agg #[.int .i64 V, .slice (some ⟨fb, 0, none⟩) E.length E.length, .slice nq7 near.length nc7, .slice gq7 far.length gc7], .nilIface]) (by simp [results, Tryz.results35, go_sem, r0, r1, r2, r3]) rfl HP.out
theorem max_is (he : Prs w ev (zE E)) (hs : I64s w sv (zN S)) (hd : I64s w dv (zN D)) (hn : N ≤ 4096) (hl : E.length ≤ 16384) (hsl : S.length ≤ 1000000) (hdl : D.length ≤ 1000000) (hok : OkA N (zE E) (zN S) (zN D)) (hEI : EdgIn N E) (hS : ∀ x, x ∈ S → x < N) (hD : ∀ x, x ∈ D → x < N) :
    Calls Tryz.prog 35 #[.int .i64 N, ev, sv, dv] w (MaxPost w N E S D) := (maxF_is he hs hd hn hl hsl hdl hok hEI hS hD).mono fun _ _ h => h.to
end
end Go.Proofs.YthfljimgpcignaaGreatDoor

/-
  What a result that proves itself tells of all sets; a square with one edge across.
-/
namespace Go.Proofs.YthfljimgpcignaaGreatDoor
open Go.RowKit

theorem PrvQ.maxQ {N : Nat} {E : Edg} {S D : List Nat} {V : Int} {f : List Int} {near far : List Bool} (h : PrvQ N E S D V f near far) (hE : EdgIn N E) : MaxQ N E (setB (markL N S)) (setB (markL N D)) V (setB near) (setB far) := by
  rw [h.val]
  refine MaxQ.of h.flow hE (fun v hv => by have := setB_lt hv; rwa [markL_len] at this) (fun v hv => by have := setB_lt hv; rwa [markL_len] at this) h.near h.far (fun v hv => ?_)
  have hvN : v < N := by have := setB_lt hv; rwa [markL_len] at this
  rw [markL_in hvN] at hv
  exact h.none v (by simpa using hv)
/-- The square. -/
def KE : Edg := [(0, 1), (0, 2), (1, 2), (1, 3), (3, 2), (3, 3)]
theorem ke_in : EdgIn 4 KE := by
  intro i hi
  match i, hi with
  | 0, _ => decide
  | 1, _ => decide
  | 2, _ => decide
  | 3, _ => decide
  | 4, _ => decide
  | 5, _ => decide
theorem ke_cross (S : VSet) : crossS S KE = b1 (S 0 != S 1) + b1 (S 0 != S 2) + b1 (S 1 != S 2) + b1 (S 1 != S 3) + b1 (S 3 != S 2) + b1 (S 3 != S 3) := by
  simp [crossS, KE, sumN, eL]
theorem lt4 {P : Nat → Prop} (h0 : P 0) (h1 : P 1) (h2 : P 2) (h3 : P 3) : ∀ v, v < 4 → P v := fun v hv =>
  match v, hv with
  | 0, _ => h0
  | 1, _ => h1
  | 2, _ => h2
  | 3, _ => h3
theorem ke_max : MaxQ 4 KE (setB (markL 4 [0])) (setB (markL 4 [3])) 2 (setB [true, false, false, false]) (setB [true, true, true, false]) := by
  have h0 : ∀ {S : VSet}, IsCut 4 (setB (markL 4 [0])) (setB (markL 4 [3])) S → S 0 = true ∧ S 3 = false := fun h => ⟨h.has 0 (by decide) (by decide), h.none 3 (by decide) (by decide)⟩
  refine ⟨⟨lt4 (by decide) (by decide) (by decide) (by decide), lt4 (by decide) (by decide) (by decide) (by decide)⟩, ⟨lt4 (by decide) (by decide) (by decide) (by decide), lt4 (by decide) (by decide) (by decide) (by decide)⟩, by rw [ke_cross]; decide, by rw [ke_cross]; decide, fun S hS => ?_, fun S hS e => ?_⟩
  · rw [ke_cross, (h0 hS).1, (h0 hS).2]
    cases S 1 <;> cases S 2 <;> decide
  · rw [ke_cross, (h0 hS).1, (h0 hS).2] at e
    have h3 := (h0 hS).2
    have h00 := (h0 hS).1
    refine ⟨lt4 (fun _ => h00) (fun h => absurd h (by decide)) (fun h => absurd h (by decide)) (fun h => absurd h (by decide)), lt4 (fun _ => by decide) (fun _ => by decide) (fun _ => by decide) (fun h => by rw [h3] at h; cases h)⟩
theorem ke_ok : OkA ((4 : Nat) : Int) (zE KE) (zN [0]) (zN [3]) := by
  refine ⟨by decide, ?_, ?_, ?_⟩ <;> decide
theorem ke_ok2 : OkA ((4 : Nat) : Int) (zE KE) (zN [0]) (zN [0]) := by
  refine ⟨by decide, ?_, ?_, ?_⟩ <;> decide
theorem ke_once : ¬ Twice (zN [0]) (zN [3]) := by
  rintro ⟨x, h1, h2⟩
  simp [zN] at h1 h2
  omega
theorem ke_twice : Twice (zN [0]) (zN [0]) := ⟨0, by decide, by decide⟩
/-- What Max tells of it. -/
theorem ke_told {V : Int} {f : List Int} {near far : List Bool} (h : PrvQ 4 KE [0] [3] V f near far) : V = 2 ∧ near = [true, false, false, false] ∧ far = [true, true, true, false] := by
  obtain ⟨h1, h2, h3⟩ := (h.maxQ ke_in).uniq ke_max
  exact ⟨h1, setB_ext (by rw [h.nl]; rfl) (fun v hv => by rw [h.nl] at hv; rw [h2 v hv]), setB_ext (by rw [h.gl]; rfl) (fun v hv => by rw [h.gl] at hv; rw [h3 v hv])⟩
abbrev keC : Array Value := #[.int .i64 0, .int .i64 1, .int .i64 0, .int .i64 2, .int .i64 1, .int .i64 2, .int .i64 1, .int .i64 3, .int .i64 3, .int .i64 2, .int .i64 3, .int .i64 3]
theorem ke_prs {w : World} {g : Nat} (h : Blk w g keC 44) : Prs w (.slice (some ⟨g, 0, none⟩) 6 6) (zE KE) := by
  refine Or.inr ⟨by decide, g, 0, 6, by decide, by omega, rfl, fun i hi => ?_⟩
  rw [Nat.zero_add]
  have hi' : i < 6 := hi
  match i, hi' with
  | 0, _ => exact ⟨h.cell 0 rfl, h.cell 1 rfl⟩
  | 1, _ => exact ⟨h.cell 2 rfl, h.cell 3 rfl⟩
  | 2, _ => exact ⟨h.cell 4 rfl, h.cell 5 rfl⟩
  | 3, _ => exact ⟨h.cell 6 rfl, h.cell 7 rfl⟩
  | 4, _ => exact ⟨h.cell 8 rfl, h.cell 9 rfl⟩
  | 5, _ => exact ⟨h.cell 10 rfl, h.cell 11 rfl⟩
theorem one_i64s {w : World} {g : Nat} {t : TypeId} {x : Nat} (h : Blk w g #[.int .i64 (x : Int)] t) : I64s w (.slice (some ⟨g, 0, none⟩) 1 1) (zN [x]) := by
  refine Or.inr ⟨by simp [zN], g, 0, 1, by simp [zN], by omega, rfl, fun i hi => ?_⟩
  rw [Nat.zero_add]
  have hi' : i < 1 := by simpa [zN] using hi
  obtain rfl : i = 0 := by omega
  exact h.cell 0 rfl
theorem four_bools {w : World} {g : Nat} {t : TypeId} {a b c d : Bool} (h : Blk w g #[.bool a, .bool b, .bool c, .bool d] t) : Bools w (.slice (some ⟨g, 0, none⟩) 4 4) [a, b, c, d] := by
  refine Or.inr ⟨by simp, g, 0, 4, by simp, by omega, rfl, fun i hi => ?_⟩
  rw [Nat.zero_add]
  have hi' : i < 4 := hi
  match i, hi' with
  | 0, _ => exact h.cell 0 rfl
  | 1, _ => exact h.cell 1 rfl
  | 2, _ => exact h.cell 2 rfl
  | 3, _ => exact h.cell 3 rfl
end Go.Proofs.YthfljimgpcignaaGreatDoor
