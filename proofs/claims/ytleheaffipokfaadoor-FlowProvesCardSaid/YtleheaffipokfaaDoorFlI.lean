/-
  One more is sent from a vertex: the program's send.
-/
import Derived.Test.YtleheaffipokfaaDoorFlH
import Derived.Test.YtleheaffipokfaaDoorFlW
namespace Go.Proofs.YtleheaffipokfaaDoor
open Go.RowKit

/-- What is neither the flow's block nor the pointers'. -/
def TP (fb nb b : Nat) : Prop := b ≠ fb ∧ b ≠ nb
/-- A tide in memory. -/
structure TideM (N : Nat) (E : Edg) (A B : List Bool) (off : List Int) (ev sv dv : Value) (us : List Value) (p tb ab ob nb fb : Nat) (w : World) (f nx : List Int) : Prop where
  web : WebS (TP fb nb) w p N E A B ev sv dv (.slice (some ⟨fb, 0, none⟩) E.length E.length) ab us
  t : Blk w tb #[pt p, .slice (some ⟨ob, 0, none⟩) N N, .slice (some ⟨nb, 0, none⟩) N N] 81
  tp : TP fb nb tb
  o : Blk w ob (numI off) 3
  op : TP fb nb ob
  ol : off.length = N
  fk : Blk w fb (numI f) 3
  fl : f.length = E.length
  nk : Blk w nb (numI nx) 3
  nl : nx.length = N
  ne : fb ≠ nb
/-- What the pointer of v is. -/
def nxA (w : World) (nb v : Nat) : Nat := match w.cell? ⟨nb, v, none⟩ with
  | some (.int _ k) => k.toNat
  | _ => 0
section
variable {N : Nat} {E : Edg} {A B : List Bool} {off : List Int} {ev sv dv : Value} {us : List Value} {p tb ab ob nb fb : Nat} {w w' : World} {f nx : List Int} {v i : Nat}
theorem TideM.old (h : TideM N E A B off ev sv dv us p tb ab ob nb fb w f nx) (hb : Below w.heap.size w w') : TideM N E A B off ev sv dv us p tb ab ob nb fb w' f nx :=
  ⟨h.web.old hb, h.t.keep hb, h.tp, h.o.keep hb, h.op, h.ol, h.fk.keep hb, h.fl, h.nk.keep hb, h.nl, h.ne⟩
theorem TideM.setF (h : TideM N E A B off ev sv dv us p tb ab ob nb fb w f nx) (i : Nat) (y : Int) : TideM N E A B off ev sv dv us p tb ab ob nb fb (w.setCell ⟨fb, i, none⟩ (.int .i64 y)) (f.set i y) nx := by
  have hk : Keep (TP fb nb) w (w.setCell ⟨fb, i, none⟩ (.int .i64 y)) := (Keep.refl _ _).setCell (fun h => h.1 rfl) _ _
  refine ⟨h.web.keep hk, hk.blk h.t h.tp, h.tp, hk.blk h.o h.op, h.op, h.ol, ?_, by rw [List.length_set]; exact h.fl, h.nk.other _ _ (fun e => h.ne e.symm), h.nl, h.ne⟩
  have := h.fk.set i (.int .i64 y)
  rwa [numI_set] at this
theorem TideM.setN (h : TideM N E A B off ev sv dv us p tb ab ob nb fb w f nx) (i : Nat) (y : Int) : TideM N E A B off ev sv dv us p tb ab ob nb fb (w.setCell ⟨nb, i, none⟩ (.int .i64 y)) f (nx.set i y) := by
  have hk : Keep (TP fb nb) w (w.setCell ⟨nb, i, none⟩ (.int .i64 y)) := (Keep.refl _ _).setCell (fun h => h.2 rfl) _ _
  refine ⟨h.web.keep hk, hk.blk h.t h.tp, h.tp, hk.blk h.o h.op, h.op, h.ol, h.fk.other _ _ h.ne, h.fl, ?_, by rw [List.length_set]; exact h.nl, h.ne⟩
  have := h.nk.set i (.int .i64 y)
  rwa [numI_set] at this
theorem TideM.fc (h : TideM N E A B off ev sv dv us p tb ab ob nb fb w f nx) (hi : i < E.length) : w.cell? ⟨fb, i, none⟩ = some (.int .i64 (fL f i)) ∧ w.frozen? ⟨fb, i, none⟩ = false ∧ fb < w.heap.size := by
  have hl : i < f.length := by rw [h.fl]; exact hi
  refine ⟨?_, h.fk.free i, h.fk.lt⟩
  rw [show fL f i = f[i] from by simp [fL, hl]]
  exact h.fk.cell i (numI_at hl)
theorem TideM.nc (h : TideM N E A B off ev sv dv us p tb ab ob nb fb w f nx) (hv : v < N) : w.cell? ⟨nb, v, none⟩ = some (.int .i64 (nL nx v)) ∧ w.frozen? ⟨nb, v, none⟩ = false ∧ nb < w.heap.size := by
  have hl : v < nx.length := by rw [h.nl]; exact hv
  rw [nL_at hl]
  exact ⟨h.nk.cell v (numI_at hl), h.nk.free v, h.nk.lt⟩
theorem TideM.oc (h : TideM N E A B off ev sv dv us p tb ab ob nb fb w f nx) (hv : v < N) : w.cell? ⟨ob, v, none⟩ = some (.int .i64 (oL off v)) ∧ ob < w.heap.size := by
  have hl : v < off.length := by rw [h.ol]; exact hv
  rw [oL_at hl]
  exact ⟨h.o.cell v (numI_at hl), h.o.lt⟩
theorem TideM.ac (h : TideM N E A B off ev sv dv us p tb ab ob nb fb w f nx) (hv : v < N) : ∃ q c, us[v]? = some (.slice q (atL E v).length c) ∧ w.cell? ⟨ab, v, none⟩ = some (.slice q (atL E v).length c) ∧ ab < w.heap.size ∧ I64s w (.slice q (atL E v).length c) (atL E v) := by
  have hvu : v < us.length := by rw [h.web.ul]; exact hv
  have hus : us[v]? = some us[v] := List.getElem?_eq_getElem hvu
  have hi := (h.web.u v _ hus).1
  obtain ⟨q, c, e⟩ := hi.shape
  rw [e] at hi hus
  exact ⟨q, c, hus, h.web.b.cell v (by rw [List.getElem?_toArray]; exact hus), h.web.b.lt, hi⟩
theorem TideM.nxA (h : TideM N E A B off ev sv dv us p tb ab ob nb fb w f nx) (hv : v < N) : nxA w nb v = (nL nx v).toNat := by
  unfold Go.Proofs.YtleheaffipokfaaDoor.nxA
  rw [(h.nc hv).1]
/-- What send answers. -/
def SendPost (N : Nat) (E : Edg) (A B : List Bool) (off : List Int) (ev sv dv : Value) (us : List Value) (p tb ab ob nb fb : Nat) (w : World) (f nx : List Int) (v : Nat) (e : Ending) (w' : World) : Prop :=
  ∃ b f' nx', e = .returned (.bool b) ∧ TideM N E A B off ev sv dv us p tb ab ob nb fb w' f' nx' ∧ Keep (TP fb nb) w w' ∧ NInv N E nx' ∧ NGrow N off nx nx' (oL off v) ∧ (b = true → SendQ N E (setB B) off v f f') ∧ (b = false → f' = f ∧ (DInv N E (setB B) off f nx → DInv N E (setB B) off f nx') ∧ Dead E (setB B) nx' v)
/-- The loop's head. -/
def SendRel (N : Nat) (E : Edg) (A B : List Bool) (off : List Int) (ev sv dv : Value) (us : List Value) (p tb ab ob nb fb : Nat) (w : World) (f nx : List Int) (v : Nat) (wr : World) : Prop :=
  ∃ nx', TideM N E A B off ev sv dv us p tb ab ob nb fb wr f nx' ∧ Keep (TP fb nb) w wr ∧ NInv N E nx' ∧ NGrow N off nx nx' (oL off v) ∧ (DInv N E (setB B) off f nx → DInv N E (setB B) off f nx')
set_option maxHeartbeats 8000000 in
set_option maxRecDepth 100000 in
theorem send_is (hoff : ∀ v, v < N → oL off v < N) : ∀ (m v : Nat) (f nx : List Int) (w : World), TideM N E A B off ev sv dv us p tb ab ob nb fb w f nx → FlOk E f → NInv N E nx → v < N → 0 ≤ oL off v → (N : Int) - oL off v ≤ m → Calls Tryd.prog 36 #[pt tb, .int .i64 v] w (SendPost N E A B off ev sv dv us p tb ab ob nb fb w f nx v) := by
  intro m
  induction m with
  | zero => exact fun v f nx w _ _ _ hv h0 hm => absurd (hoff v hv) (by omega)
  | succ m ih =>
    intro v f nx w hT hf hn hv h0 hm
    have HIH := Lib.hid ih
    have HT := Lib.hid hT
    have HF := Lib.hid hf
    have HN := Lib.hid hn
    have HM := Lib.hid hm
    have hob := hoff v hv
    have HOFF := Lib.hid hoff
    have hNN := hT.web.nn
    have hEN := hT.web.en
    obtain ⟨dq, dc, rfl⟩ := hT.web.d.shape
    obtain ⟨db, do_, rfl, hdc⟩ := hT.web.d.at (k := v) (by rw [hT.web.bl]; exact hv)
    rw [← setB_at (by rw [hT.web.bl]; exact hv)] at hdc
    have hdl := World.block_lt_of_cell? w _ hdc
    obtain ⟨t0, t1, t2, -⟩ := hT.t.o3
    have htl := hT.t.lt
    obtain ⟨x0, x1, x2, x3, x4, -, -, -, -, -⟩ := hT.web.k.o5
    have hpl := hT.web.k.lt
    have hvi : (v : Int) < (N : Int) := by omega
    have hvB : (v : Int) < (B.length : Int) := by rw [hT.web.bl]; exact hvi
    clear ih hT hf hn hm hoff
    go_enter Tryd.func36, Tryd.ntmps36
    cases hB : setB B v with
    | true =>
      rw [hB] at hdc
      have HP : Hid (SendPost N E A B off ev sv (.slice (some ⟨db, do_, none⟩) B.length dc) us p tb ab ob nb fb w f nx v (.returned (.bool true)) w) := Lib.hid ⟨true, f, nx, rfl, HT.out, Keep.refl _ _, HN.out, NGrow.refl _, fun _ => SendQ.here HF.out hv hB, fun h => (by cases h)⟩
      clear hB HIH
      go_wp2_with fail
      go_ret
      exact HP.out
    | false =>
      rw [hB] at hdc
      have HBV := Lib.hid hB
      have HR0 : Hid (SendRel N E A B off ev sv (.slice (some ⟨db, do_, none⟩) B.length dc) us p tb ab ob nb fb w f nx v w) := Lib.hid ⟨nx, HT.out, Keep.refl _ _, HN.out, NGrow.refl _, id⟩
      clear hB
      go_wp2_with fail
      clear hdc hdl t0 t1 t2 htl x0 x1 x2 x3 x4 hpl HT HN
      go_loopw [5, 6, 7] (fun _ _ _ wr => SendRel N E A B off ev sv (.slice (some ⟨db, do_, none⟩) B.length dc) us p tb ab ob nb fb w f nx v wr) (fun _ _ _ wr => (atL E v).length - nxA wr nb v)
      case atStart => exact HR0.out
      case round =>
        obtain ⟨nx1, hT, hk, hn, hg, hD⟩ := hrel
        obtain ⟨j, hj⟩ : ∃ j : Nat, nL nx1 v = j := ⟨(nL nx1 v).toNat, by have := (hn.bd v hv).1; omega⟩
        have hjb := (hn.bd v hv).2
        have hat := atTo_len E v E.length
        have hat2 : (atL E v).length ≤ 32768 := by show (atTo E E.length v).length ≤ _; omega
        have hmeas := hT.nxA hv
        have HMEAS := Lib.hid hmeas
        have HT1 := Lib.hid hT
        have HK1 := Lib.hid hk
        have HN1 := Lib.hid hn
        have HG1 := Lib.hid hg
        have HD1 := Lib.hid hD
        have HJ := Lib.hid hj
        obtain ⟨nc, nf, nl⟩ := hT.nc hv
        rw [hj] at nc hjb
        obtain ⟨rq, rc, hru, ac, al, hri⟩ := hT.ac hv
        obtain ⟨t0, t1, t2, -⟩ := hT.t.o3
        have htl := hT.t.lt
        obtain ⟨x0, x1, x2, x3, x4, -, -, -, -, -⟩ := hT.web.k.o5
        have hpl := hT.web.k.lt
        clear hT hk hn hg hD hj hmeas HR0 hat
        by_cases hlt : j < (atL E v).length
        case neg =>
          have hd9 : decide (j < (atL E v).length) = false := by simpa using hlt
          have HP : Hid (∀ n, SendPost N E A B off ev sv (.slice (some ⟨db, do_, none⟩) B.length dc) us p tb ab ob nb fb w f nx v (.returned (.bool false)) (wr.drewN n)) := Lib.hid fun n => ⟨false, f, nx1, rfl, HT1.out.old (below_drewN (Below.refl _ _) n), HK1.out.on ((below_drewN (Below.refl _ _) n).mono HK1.out.size), HN1.out, HG1.out, fun h => (by cases h), fun _ => ⟨rfl, HD1.out, by rw [HJ.out]; omega, HBV.out⟩⟩
          clear hlt hri
          go_wp2_with fail
          go_quiet (fail)
          go_wp2_with fail
          go_ret
          exact HP.out _
        have hji : (j : Int) < ((atL E v).length : Int) := by omega
        obtain ⟨i, hiE, hij, hiv⟩ := atTo_mem.1 (List.getElem_mem hlt)
        obtain ⟨b, o, rfl, hic⟩ := hri.at hlt
        have hil := World.block_lt_of_cell? wr _ hic
        have hij2 : (atL E v)[j]? = some (i : Int) := by rw [List.getElem?_eq_getElem hlt]; exact congrArg some hij
        rw [show (atL E v)[j] = (i : Int) from hij] at hic
        obtain ⟨x, y, hxy⟩ : ∃ x y, alongE E i v = (x, y) := ⟨_, _, rfl⟩
        have hx : x < N := by
          have := HT1.out.web.ein i hiE
          unfold alongE at hxy
          split at hxy
          · have := (Prod.mk.inj hxy).1; omega
          · have := (Prod.mk.inj hxy).1; omega
        have hy : y = 1 ∨ y = -1 := by
          unfold alongE at hxy
          split at hxy
          · exact Or.inl (Prod.mk.inj hxy).2.symm
          · exact Or.inr (Prod.mk.inj hxy).2.symm
        have HXY := Lib.hid hxy
        have HIJ := Lib.hid hij2
        have HIV := Lib.hid hiv
        have HIC := Lib.hid hic
        clear hri hij hij2 hxy hiv
        go_wp2_with fail
        go_quiet (fail)
        obtain ⟨w4, hw4⟩ := named (wr.drewN nq)
        have hb4 : Below wr.heap.size wr w4 := by rw [hw4]; exact below_drewN (Below.refl _ _) nq
        rw [← hw4]
        have HB4 := Lib.hid hb4
        clear nc nf nl ac al t0 t1 t2 htl x0 x1 x2 x3 x4 hpl hic hil
        have hT4 := HT1.out.old hb4
        obtain ⟨nc, -, nl⟩ := hT4.nc hv
        rw [HJ.out] at nc
        have ac := hT4.web.b.cell v (by rw [List.getElem?_toArray]; exact hru)
        have al := hT4.web.b.lt
        obtain ⟨t0, t1, t2, -⟩ := hT4.t.o3
        have htl := hT4.t.lt
        obtain ⟨x0, x1, x2, x3, x4, -, -, -, -, -⟩ := hT4.web.k.o5
        have hpl := hT4.web.k.lt
        have hic := keep hb4 HIC.out
        have hil := World.block_lt_of_cell? w4 _ hic
        clear hw4 hb4 hT4
        go_wp2_with fail
        go_quiet (fail)
        obtain ⟨w5, hw5⟩ := named (w4.drewN nq)
        have hb5 : Below w4.heap.size w4 w5 := by rw [hw5]; exact below_drewN (Below.refl _ _) nq
        rw [← hw5]
        have HB5 := Lib.hid (bOn6 HB4.out hb5)
        clear nc nl ac al t0 t1 t2 htl x0 x1 x2 x3 x4 hpl hic hil hw5 hb5 HB4
        have hT5 := HT1.out.old HB5.out
        obtain ⟨t0, t1, t2, -⟩ := hT5.t.o3
        have htl := hT5.t.lt
        obtain ⟨x0, x1, x2, x3, x4, -, -, -, -, -⟩ := hT5.web.k.o5
        have hpl := hT5.web.k.lt
        clear hT5
        go_wp2_with fail
        clear t0 t1 t2 htl x0 x1 x2 x3 x4 hpl
        refine (along_is (HT1.out.old HB5.out).web hiE HXY.out).mono ?_
        rintro e w6 ⟨rfl, hb6⟩
        have HB6 := Lib.hid (bOn6 HB5.out hb6)
        clear hb6 HB5
        have hob5 := HOFF.out x hx
        have HT6 := Lib.hid (HT1.out.old HB6.out)
        have HK6 := Lib.hid (HK1.out.on (HB6.out.mono HK1.out.size))
        have hwo : IntKind.i64.wrap (oL off v + 1) = oL off v + 1 := IntWalk.i64_in _ (by omega)
        have hwj : IntKind.i64.wrap ((j : Int) + 1) = (j : Int) + 1 := IntWalk.i64_in _ (by omega)
        have hxi : (x : Int) < (N : Int) := by omega
        have hii : (i : Int) < (E.length : Int) := by omega
        have HWO := Lib.hid hwo
        have HWJ := Lib.hid hwj
        have HX := Lib.hid hx
        have HIE := Lib.hid hiE
        clear hwj
        by_cases ho : oL off x = oL off v + 1
        · by_cases hne : fL f i = y
          · have hnb : (fL f i != y) = false := by simpa using hne
            have hnz : (oL off x == oL off v + 1) = true := by simpa using ho
            have hT6 := HT6.out
            obtain ⟨t0, t1, t2, -⟩ := hT6.t.o3
            have htl := hT6.t.lt
            obtain ⟨x0, x1, x2, x3, x4, -, -, -, -, -⟩ := hT6.web.k.o5
            have hpl := hT6.web.k.lt
            obtain ⟨oc, ol⟩ := hT6.oc HX.out
            obtain ⟨oc2, -⟩ := hT6.oc hv
            obtain ⟨fc, -, fl⟩ := hT6.fc HIE.out
            clear hT6
            go_wp2_with fail
            go_quiet (fail)
            obtain ⟨w7, hw7⟩ := named (w6.drewN nq)
            have hb7 : Below w6.heap.size w6 w7 := by rw [hw7]; exact below_drewN (Below.refl _ _) nq
            rw [← hw7]
            clear hw7 t0 t1 t2 htl x0 x1 x2 x3 x4 hpl oc ol oc2 fc fl
            have HJ9 := HJ
            have hT7 := HT6.out.old hb7
            obtain ⟨t0, t1, t2, -⟩ := hT7.t.o3
            have htl := hT7.t.lt
            obtain ⟨nc, nf, nl⟩ := hT7.nc hv
            rw [HJ.out] at nc
            have hT8 := hT7.setN v ((j : Int) + 1)
            have HR1 : Hid (SendRel N E A B off ev sv (.slice (some ⟨db, do_, none⟩) B.length dc) us p tb ab ob nb fb w f nx v (w7.setCell ⟨nb, v, none⟩ (.int .i64 ((j : Int) + 1)))) := Lib.hid ⟨nx1.set v ((j : Int) + 1), hT8, (HK6.out.on (hb7.mono HK6.out.size)).setCell (fun h => h.2 rfl) _ _, HN1.out.next hv HJ.out hlt, HG1.out.trans (NGrow.next HN1.out hv HJ.out), fun h => next_step HN1.out hv HJ.out HIJ.out HXY.out (HD1.out h) (fun h1 h2 => absurd hne h2)⟩
            have HM1 : Hid (nxA (w7.setCell ⟨nb, v, none⟩ (.int .i64 ((j : Int) + 1))) nb v = j + 1) := Lib.hid (by rw [hT8.nxA hv, nL_set (by rw [HN1.out.len]; exact hv), if_pos rfl]; omega)
            have hwj := HWJ.out
            clear hT7 hT8 hb7 HJ9
            go_wp2_with fail
            go_roundw
            case rel => exact HR1.out
            case measure => rw [HM1.out, HMEAS.out, HJ.out]; omega
          · have hT6 := HT6.out
            obtain ⟨t0, t1, t2, -⟩ := hT6.t.o3
            have htl := hT6.t.lt
            obtain ⟨x0, x1, x2, x3, x4, -, -, -, -, -⟩ := hT6.web.k.o5
            have hpl := hT6.web.k.lt
            obtain ⟨oc, ol⟩ := hT6.oc HX.out
            obtain ⟨oc2, -⟩ := hT6.oc hv
            obtain ⟨fc, -, fl⟩ := hT6.fc HIE.out
            clear hT6
            have HNE := Lib.hid hne
            have hnb : (fL f i != y) = true := by simpa using hne
            have HNB := Lib.hid hnb
            have HOX := Lib.hid ho
            have DS0 : Hid (GG.BelS w6 (fun _ => false) () w6.drew) := Lib.hid ⟨(Below.refl _ _).drew⟩
            clear t0 t1 t2 htl x0 x1 x2 x3 x4 hpl oc ol oc2 fc fl hne ho hnb
            go_wp2_with fail
            refine' GG.wp_thenL _ 33 (GG.BelS w6) [[], [0], [0, 1], [0, 1, 2], [], [0, 1, 2, 3, 4], [0, 1, 2, 3, 4, 5], [], [7], [7, 8], [7, 8, 9], [], [7, 8, 9, 10, 11], [7, 8, 9, 10, 11, 12], [7, 8, 9, 10, 11, 12, 13], [0, 1, 2, 3, 4, 5, 6, 7, 8, 9, 10, 11, 12, 13, 14], [0, 1, 2, 3, 4, 5, 6, 7, 8, 9, 10, 11, 12, 13, 14, 15], [0, 1, 2, 3, 4, 5, 6, 7, 8, 9, 10, 11, 12, 13, 14, 15, 16], [0, 1, 2, 3, 4, 5, 6, 7, 8, 9, 10, 11, 12, 13, 14, 15, 16, 17], [0, 1, 2, 3, 4, 5, 6, 7, 8, 9, 10, 11, 12, 13, 14, 15, 16, 17, 18], [0, 1, 2, 3, 4, 5, 6, 7, 8, 9, 10, 11, 12, 13, 14, 15, 16, 17, 18, 19], [0, 1, 2, 3, 4, 5, 6, 7, 8, 9, 10, 11, 12, 13, 14, 15, 16, 17, 18, 19, 20], [0, 1, 2, 3, 4, 5, 6, 7, 8, 9, 10, 11, 12, 13, 14, 15, 16, 17, 18, 19, 20, 21], [0, 1, 2, 3, 4, 5, 6, 7, 8, 9, 10, 11, 12, 13, 14, 15, 16, 17, 18, 19, 20, 21, 22], [0, 1, 2, 3, 4, 5, 6, 7, 8, 9, 10, 11, 12, 13, 14, 15, 16], [0, 1, 2, 3, 4, 5, 6, 7, 8, 9, 10, 11, 12, 13, 14, 15, 16, 17, 18, 19, 20, 21, 22, 23, 24], [0, 1, 2, 3, 4, 5, 6, 7, 8, 9, 10, 11, 12, 13, 14, 15, 16, 17, 18, 19, 20, 21, 22, 23, 24, 25], [0, 1, 2, 3, 4, 5, 6, 7, 8, 9, 10, 11, 12, 13, 14, 15, 16], [0, 1, 2, 3, 4, 5, 6, 7, 8, 9, 10, 11, 12, 13, 14, 15, 16, 17, 18, 19, 20, 21, 22, 23, 24, 25, 26, 27], [0, 1, 2, 3, 4, 5, 6, 7, 8, 9, 10, 11, 12, 13, 14, 15, 16, 17, 18, 19, 20, 21, 22, 23, 24, 25, 26, 27, 28], [0, 1, 2, 3, 4, 5, 6, 7, 8, 9, 10, 11, 12, 13, 14, 15, 16, 17, 18, 19, 20, 21, 22, 23, 24, 25, 26, 27, 28, 29], [0, 1, 2, 3, 4, 5, 6, 7, 8, 9, 10, 11, 12, 13, 14, 15, 16, 17, 18, 19, 20, 21, 22, 23, 24, 25, 26, 27, 28, 29, 30], [0, 1, 2, 3, 4, 5, 6, 7, 8, 9, 10, 11, 12, 13, 14, 15, 16, 17, 18, 19, 20, 21, 22, 23, 24, 25, 26, 27, 28, 29, 30]] (GG.Fact.lit (Rl := GG.RlB) _ :: GG.Fact.lit (Rl := GG.RlB) _ :: GG.Fact.lit (Rl := GG.RlB) _ :: GG.Fact.lit (Rl := GG.RlB) _ :: GG.Fact.lit (Rl := GG.RlB) _ :: GG.Fact.lit (Rl := GG.RlB) _ :: GG.Fact.lit (Rl := GG.RlB) _ :: GG.Fact.lit (Rl := GG.RlB) _ :: GG.Fact.lit (Rl := GG.RlB) _ :: GG.Fact.lit (Rl := GG.RlB) _ :: GG.Fact.lit (Rl := GG.RlB) _ :: GG.Fact.lit (Rl := GG.RlB) _ :: GG.Fact.lit (Rl := GG.RlB) _ :: GG.Fact.lit (Rl := GG.RlB) _ :: GG.Fact.lit (Rl := GG.RlB) _ :: GG.Fact.lit (Rl := GG.RlB) _ :: GG.Fact.lit (Rl := GG.RlB) _ :: GG.Fact.lit (Rl := GG.RlB) _ :: GG.Fact.lit (Rl := GG.RlB) _ :: GG.Fact.lit (Rl := GG.RlB) _ :: GG.Fact.lit (Rl := GG.RlB) _ :: GG.Fact.lit (Rl := GG.RlB) _ :: GG.Fact.lit (Rl := GG.RlB) _ :: GG.Fact.lit (Rl := GG.RlB) _ :: GG.Fact.lit (Rl := GG.RlB) _ :: GG.Fact.lit (Rl := GG.RlB) _ :: GG.Fact.lit (Rl := GG.RlB) _ :: GG.Fact.lit (Rl := GG.RlB) _ :: GG.Fact.lit (Rl := GG.RlB) _ :: GG.Fact.lit (Rl := GG.RlB) _ :: GG.Fact.lit (Rl := GG.RlB) _ :: GG.Fact.lit (Rl := GG.RlB) _ :: GG.Fact.lit (Rl := GG.RlB) _ :: []) (by kernel_rfl) rfl (by kernel_rfl) (()) (DS0.out) ?seqsd
            case' seqsd => skip
            (refine' GG.grow_lit (GG.BelS.still) rfl ?wtsd0 ?runsd0 ?putsd0 ?nextsd0; (case wtsd0 => rfl); (case runsd0 => (intro w' hS; (obtain ⟨dn, s, hS⟩ := hS); (have hT := HT6.out.old hS.b); (obtain ⟨t0, t1, t2, -⟩ := hT.t.o3); (have htl := hT.t.lt); (obtain ⟨x0, x1, x2, x3, x4, -, -, -, -, -⟩ := hT.web.k.o5); (have hpl := hT.web.k.lt); (obtain ⟨oc, ol⟩ := hT.oc HX.out); (obtain ⟨oc2, -⟩ := hT.oc hv); (obtain ⟨fc, -, fl⟩ := hT.fc HIE.out); (rw [HOX.out] at oc); (have hnb := HNB.out); clear hT hS; go_simp; first | done | exact rfl)); (case putsd0 => (first | (simp only [Act.put, List.setIfInBounds_toArray, List.set_cons_zero, List.set_cons_succ]; first | done | exact rfl) | rfl)); (case' nextsd0 => skip))
            (refine' GG.grow_lit (GG.BelS.still) rfl ?wtsd1 ?runsd1 ?putsd1 ?nextsd1; (case wtsd1 => rfl); (case runsd1 => (intro w' hS; (obtain ⟨dn, s, hS⟩ := hS); (have hT := HT6.out.old hS.b); (obtain ⟨t0, t1, t2, -⟩ := hT.t.o3); (have htl := hT.t.lt); (obtain ⟨x0, x1, x2, x3, x4, -, -, -, -, -⟩ := hT.web.k.o5); (have hpl := hT.web.k.lt); (obtain ⟨oc, ol⟩ := hT.oc HX.out); (obtain ⟨oc2, -⟩ := hT.oc hv); (obtain ⟨fc, -, fl⟩ := hT.fc HIE.out); (rw [HOX.out] at oc); (have hnb := HNB.out); clear hT hS; go_simp; first | done | exact rfl)); (case putsd1 => (first | (simp only [Act.put, List.setIfInBounds_toArray, List.set_cons_zero, List.set_cons_succ]; first | done | exact rfl) | rfl)); (case' nextsd1 => skip))
            (refine' GG.grow_lit (GG.BelS.still) rfl ?wtsd2 ?runsd2 ?putsd2 ?nextsd2; (case wtsd2 => rfl); (case runsd2 => (intro w' hS; (obtain ⟨dn, s, hS⟩ := hS); (have hT := HT6.out.old hS.b); (obtain ⟨t0, t1, t2, -⟩ := hT.t.o3); (have htl := hT.t.lt); (obtain ⟨x0, x1, x2, x3, x4, -, -, -, -, -⟩ := hT.web.k.o5); (have hpl := hT.web.k.lt); (obtain ⟨oc, ol⟩ := hT.oc HX.out); (obtain ⟨oc2, -⟩ := hT.oc hv); (obtain ⟨fc, -, fl⟩ := hT.fc HIE.out); (rw [HOX.out] at oc); (have hnb := HNB.out); clear hT hS; go_simp; first | done | exact rfl)); (case putsd2 => (first | (simp only [Act.put, List.setIfInBounds_toArray, List.set_cons_zero, List.set_cons_succ]; first | done | exact rfl) | rfl)); (case' nextsd2 => skip))
            (refine' GG.grow_lit (GG.BelS.still) rfl ?wtsd3 ?runsd3 ?putsd3 ?nextsd3; (case wtsd3 => rfl); (case runsd3 => (intro w' hS; (obtain ⟨dn, s, hS⟩ := hS); (have hT := HT6.out.old hS.b); (obtain ⟨t0, t1, t2, -⟩ := hT.t.o3); (have htl := hT.t.lt); (obtain ⟨x0, x1, x2, x3, x4, -, -, -, -, -⟩ := hT.web.k.o5); (have hpl := hT.web.k.lt); (obtain ⟨oc, ol⟩ := hT.oc HX.out); (obtain ⟨oc2, -⟩ := hT.oc hv); (obtain ⟨fc, -, fl⟩ := hT.fc HIE.out); (rw [HOX.out] at oc); (have hnb := HNB.out); clear hT hS; go_simp; first | done | exact rfl)); (case putsd3 => (first | (simp only [Act.put, List.setIfInBounds_toArray, List.set_cons_zero, List.set_cons_succ]; first | done | exact rfl) | rfl)); (case' nextsd3 => skip))
            (refine' GG.grow_lit (GG.BelS.still) rfl ?wtsd4 ?runsd4 ?putsd4 ?nextsd4; (case wtsd4 => rfl); (case runsd4 => (intro w' hS; (obtain ⟨dn, s, hS⟩ := hS); (have hT := HT6.out.old hS.b); (obtain ⟨t0, t1, t2, -⟩ := hT.t.o3); (have htl := hT.t.lt); (obtain ⟨x0, x1, x2, x3, x4, -, -, -, -, -⟩ := hT.web.k.o5); (have hpl := hT.web.k.lt); (obtain ⟨oc, ol⟩ := hT.oc HX.out); (obtain ⟨oc2, -⟩ := hT.oc hv); (obtain ⟨fc, -, fl⟩ := hT.fc HIE.out); (rw [HOX.out] at oc); (have hnb := HNB.out); clear hT hS; go_simp; first | done | exact rfl)); (case putsd4 => (first | (simp only [Act.put, List.setIfInBounds_toArray, List.set_cons_zero, List.set_cons_succ]; first | done | exact rfl) | rfl)); (case' nextsd4 => skip))
            (refine' GG.grow_lit (GG.BelS.still) rfl ?wtsd5 ?runsd5 ?putsd5 ?nextsd5; (case wtsd5 => rfl); (case runsd5 => (intro w' hS; (obtain ⟨dn, s, hS⟩ := hS); (have hT := HT6.out.old hS.b); (obtain ⟨t0, t1, t2, -⟩ := hT.t.o3); (have htl := hT.t.lt); (obtain ⟨x0, x1, x2, x3, x4, -, -, -, -, -⟩ := hT.web.k.o5); (have hpl := hT.web.k.lt); (obtain ⟨oc, ol⟩ := hT.oc HX.out); (obtain ⟨oc2, -⟩ := hT.oc hv); (obtain ⟨fc, -, fl⟩ := hT.fc HIE.out); (rw [HOX.out] at oc); (have hnb := HNB.out); clear hT hS; go_simp; first | done | exact rfl)); (case putsd5 => (first | (simp only [Act.put, List.setIfInBounds_toArray, List.set_cons_zero, List.set_cons_succ]; first | done | exact rfl) | rfl)); (case' nextsd5 => skip))
            (refine' GG.grow_lit (GG.BelS.still) rfl ?wtsd6 ?runsd6 ?putsd6 ?nextsd6; (case wtsd6 => rfl); (case runsd6 => (intro w' hS; (obtain ⟨dn, s, hS⟩ := hS); (have hT := HT6.out.old hS.b); (obtain ⟨t0, t1, t2, -⟩ := hT.t.o3); (have htl := hT.t.lt); (obtain ⟨x0, x1, x2, x3, x4, -, -, -, -, -⟩ := hT.web.k.o5); (have hpl := hT.web.k.lt); (obtain ⟨oc, ol⟩ := hT.oc HX.out); (obtain ⟨oc2, -⟩ := hT.oc hv); (obtain ⟨fc, -, fl⟩ := hT.fc HIE.out); (rw [HOX.out] at oc); (have hnb := HNB.out); clear hT hS; go_simp; first | done | exact rfl)); (case putsd6 => (first | (simp only [Act.put, List.setIfInBounds_toArray, List.set_cons_zero, List.set_cons_succ]; first | done | exact rfl) | rfl)); (case' nextsd6 => skip))
            (refine' GG.grow_lit (GG.BelS.still) rfl ?wtsd7 ?runsd7 ?putsd7 ?nextsd7; (case wtsd7 => rfl); (case runsd7 => (intro w' hS; (obtain ⟨dn, s, hS⟩ := hS); (have hT := HT6.out.old hS.b); (obtain ⟨t0, t1, t2, -⟩ := hT.t.o3); (have htl := hT.t.lt); (obtain ⟨x0, x1, x2, x3, x4, -, -, -, -, -⟩ := hT.web.k.o5); (have hpl := hT.web.k.lt); (obtain ⟨oc, ol⟩ := hT.oc HX.out); (obtain ⟨oc2, -⟩ := hT.oc hv); (obtain ⟨fc, -, fl⟩ := hT.fc HIE.out); (rw [HOX.out] at oc); (have hnb := HNB.out); clear hT hS; go_simp; first | done | exact rfl)); (case putsd7 => (first | (simp only [Act.put, List.setIfInBounds_toArray, List.set_cons_zero, List.set_cons_succ]; first | done | exact rfl) | rfl)); (case' nextsd7 => skip))
            (refine' GG.grow_lit (GG.BelS.still) rfl ?wtsd8 ?runsd8 ?putsd8 ?nextsd8; (case wtsd8 => rfl); (case runsd8 => (intro w' hS; (obtain ⟨dn, s, hS⟩ := hS); (have hT := HT6.out.old hS.b); (obtain ⟨t0, t1, t2, -⟩ := hT.t.o3); (have htl := hT.t.lt); (obtain ⟨x0, x1, x2, x3, x4, -, -, -, -, -⟩ := hT.web.k.o5); (have hpl := hT.web.k.lt); (obtain ⟨oc, ol⟩ := hT.oc HX.out); (obtain ⟨oc2, -⟩ := hT.oc hv); (obtain ⟨fc, -, fl⟩ := hT.fc HIE.out); (rw [HOX.out] at oc); (have hnb := HNB.out); clear hT hS; go_simp; first | done | exact rfl)); (case putsd8 => (first | (simp only [Act.put, List.setIfInBounds_toArray, List.set_cons_zero, List.set_cons_succ]; first | done | exact rfl) | rfl)); (case' nextsd8 => skip))
            (refine' GG.grow_lit (GG.BelS.still) rfl ?wtsd9 ?runsd9 ?putsd9 ?nextsd9; (case wtsd9 => rfl); (case runsd9 => (intro w' hS; (obtain ⟨dn, s, hS⟩ := hS); (have hT := HT6.out.old hS.b); (obtain ⟨t0, t1, t2, -⟩ := hT.t.o3); (have htl := hT.t.lt); (obtain ⟨x0, x1, x2, x3, x4, -, -, -, -, -⟩ := hT.web.k.o5); (have hpl := hT.web.k.lt); (obtain ⟨oc, ol⟩ := hT.oc HX.out); (obtain ⟨oc2, -⟩ := hT.oc hv); (obtain ⟨fc, -, fl⟩ := hT.fc HIE.out); (rw [HOX.out] at oc); (have hnb := HNB.out); clear hT hS; go_simp; first | done | exact rfl)); (case putsd9 => (first | (simp only [Act.put, List.setIfInBounds_toArray, List.set_cons_zero, List.set_cons_succ]; first | done | exact rfl) | rfl)); (case' nextsd9 => skip))
            (refine' GG.grow_lit (GG.BelS.still) rfl ?wtsd10 ?runsd10 ?putsd10 ?nextsd10; (case wtsd10 => rfl); (case runsd10 => (intro w' hS; (obtain ⟨dn, s, hS⟩ := hS); (have hT := HT6.out.old hS.b); (obtain ⟨t0, t1, t2, -⟩ := hT.t.o3); (have htl := hT.t.lt); (obtain ⟨x0, x1, x2, x3, x4, -, -, -, -, -⟩ := hT.web.k.o5); (have hpl := hT.web.k.lt); (obtain ⟨oc, ol⟩ := hT.oc HX.out); (obtain ⟨oc2, -⟩ := hT.oc hv); (obtain ⟨fc, -, fl⟩ := hT.fc HIE.out); (rw [HOX.out] at oc); (have hnb := HNB.out); clear hT hS; go_simp; first | done | exact rfl)); (case putsd10 => (first | (simp only [Act.put, List.setIfInBounds_toArray, List.set_cons_zero, List.set_cons_succ]; first | done | exact rfl) | rfl)); (case' nextsd10 => skip))
            (refine' GG.grow_lit (GG.BelS.still) rfl ?wtsd11 ?runsd11 ?putsd11 ?nextsd11; (case wtsd11 => rfl); (case runsd11 => (intro w' hS; (obtain ⟨dn, s, hS⟩ := hS); (have hT := HT6.out.old hS.b); (obtain ⟨t0, t1, t2, -⟩ := hT.t.o3); (have htl := hT.t.lt); (obtain ⟨x0, x1, x2, x3, x4, -, -, -, -, -⟩ := hT.web.k.o5); (have hpl := hT.web.k.lt); (obtain ⟨oc, ol⟩ := hT.oc HX.out); (obtain ⟨oc2, -⟩ := hT.oc hv); (obtain ⟨fc, -, fl⟩ := hT.fc HIE.out); (rw [HOX.out] at oc); (have hnb := HNB.out); clear hT hS; go_simp; first | done | exact rfl)); (case putsd11 => (first | (simp only [Act.put, List.setIfInBounds_toArray, List.set_cons_zero, List.set_cons_succ]; first | done | exact rfl) | rfl)); (case' nextsd11 => skip))
            (refine' GG.grow_lit (GG.BelS.still) rfl ?wtsd12 ?runsd12 ?putsd12 ?nextsd12; (case wtsd12 => rfl); (case runsd12 => (intro w' hS; (obtain ⟨dn, s, hS⟩ := hS); (have hT := HT6.out.old hS.b); (obtain ⟨t0, t1, t2, -⟩ := hT.t.o3); (have htl := hT.t.lt); (obtain ⟨x0, x1, x2, x3, x4, -, -, -, -, -⟩ := hT.web.k.o5); (have hpl := hT.web.k.lt); (obtain ⟨oc, ol⟩ := hT.oc HX.out); (obtain ⟨oc2, -⟩ := hT.oc hv); (obtain ⟨fc, -, fl⟩ := hT.fc HIE.out); (rw [HOX.out] at oc); (have hnb := HNB.out); clear hT hS; go_simp; first | done | exact rfl)); (case putsd12 => (first | (simp only [Act.put, List.setIfInBounds_toArray, List.set_cons_zero, List.set_cons_succ]; first | done | exact rfl) | rfl)); (case' nextsd12 => skip))
            (refine' GG.grow_lit (GG.BelS.still) rfl ?wtsd13 ?runsd13 ?putsd13 ?nextsd13; (case wtsd13 => rfl); (case runsd13 => (intro w' hS; (obtain ⟨dn, s, hS⟩ := hS); (have hT := HT6.out.old hS.b); (obtain ⟨t0, t1, t2, -⟩ := hT.t.o3); (have htl := hT.t.lt); (obtain ⟨x0, x1, x2, x3, x4, -, -, -, -, -⟩ := hT.web.k.o5); (have hpl := hT.web.k.lt); (obtain ⟨oc, ol⟩ := hT.oc HX.out); (obtain ⟨oc2, -⟩ := hT.oc hv); (obtain ⟨fc, -, fl⟩ := hT.fc HIE.out); (rw [HOX.out] at oc); (have hnb := HNB.out); clear hT hS; go_simp; first | done | exact rfl)); (case putsd13 => (first | (simp only [Act.put, List.setIfInBounds_toArray, List.set_cons_zero, List.set_cons_succ]; first | done | exact rfl) | rfl)); (case' nextsd13 => skip))
            (refine' GG.grow_lit (GG.BelS.still) rfl ?wtsd14 ?runsd14 ?putsd14 ?nextsd14; (case wtsd14 => rfl); (case runsd14 => (intro w' hS; (obtain ⟨dn, s, hS⟩ := hS); (have hT := HT6.out.old hS.b); (obtain ⟨t0, t1, t2, -⟩ := hT.t.o3); (have htl := hT.t.lt); (obtain ⟨x0, x1, x2, x3, x4, -, -, -, -, -⟩ := hT.web.k.o5); (have hpl := hT.web.k.lt); (obtain ⟨oc, ol⟩ := hT.oc HX.out); (obtain ⟨oc2, -⟩ := hT.oc hv); (obtain ⟨fc, -, fl⟩ := hT.fc HIE.out); (rw [HOX.out] at oc); (have hnb := HNB.out); clear hT hS; go_simp; first | done | exact rfl)); (case putsd14 => (first | (simp only [Act.put, List.setIfInBounds_toArray, List.set_cons_zero, List.set_cons_succ]; first | done | exact rfl) | rfl)); (case' nextsd14 => skip))
            (refine' GG.grow_lit (GG.BelS.still) rfl ?wtsd15 ?runsd15 ?putsd15 ?nextsd15; (case wtsd15 => rfl); (case runsd15 => (intro w' hS; (obtain ⟨dn, s, hS⟩ := hS); (have hT := HT6.out.old hS.b); (obtain ⟨t0, t1, t2, -⟩ := hT.t.o3); (have htl := hT.t.lt); (obtain ⟨x0, x1, x2, x3, x4, -, -, -, -, -⟩ := hT.web.k.o5); (have hpl := hT.web.k.lt); (obtain ⟨oc, ol⟩ := hT.oc HX.out); (obtain ⟨oc2, -⟩ := hT.oc hv); (obtain ⟨fc, -, fl⟩ := hT.fc HIE.out); (rw [HOX.out] at oc); (have hnb := HNB.out); clear hT hS; go_simp; first | done | exact rfl)); (case putsd15 => (first | (simp only [Act.put, List.setIfInBounds_toArray, List.set_cons_zero, List.set_cons_succ]; first | done | exact rfl) | rfl)); (case' nextsd15 => skip))
            (refine' GG.grow_lit (GG.BelS.still) rfl ?wtsd16 ?runsd16 ?putsd16 ?nextsd16; (case wtsd16 => rfl); (case runsd16 => (intro w' hS; (obtain ⟨dn, s, hS⟩ := hS); (have hT := HT6.out.old hS.b); (obtain ⟨t0, t1, t2, -⟩ := hT.t.o3); (have htl := hT.t.lt); (obtain ⟨x0, x1, x2, x3, x4, -, -, -, -, -⟩ := hT.web.k.o5); (have hpl := hT.web.k.lt); (obtain ⟨oc, ol⟩ := hT.oc HX.out); (obtain ⟨oc2, -⟩ := hT.oc hv); (obtain ⟨fc, -, fl⟩ := hT.fc HIE.out); (rw [HOX.out] at oc); (have hnb := HNB.out); clear hT hS; go_simp; first | done | exact rfl)); (case putsd16 => (first | (simp only [Act.put, List.setIfInBounds_toArray, List.set_cons_zero, List.set_cons_succ]; first | done | exact rfl) | rfl)); (case' nextsd16 => skip))
            (refine' GG.grow_lit (GG.BelS.still) rfl ?wtsd17 ?runsd17 ?putsd17 ?nextsd17; (case wtsd17 => rfl); (case runsd17 => (intro w' hS; (obtain ⟨dn, s, hS⟩ := hS); (have hT := HT6.out.old hS.b); (obtain ⟨t0, t1, t2, -⟩ := hT.t.o3); (have htl := hT.t.lt); (obtain ⟨x0, x1, x2, x3, x4, -, -, -, -, -⟩ := hT.web.k.o5); (have hpl := hT.web.k.lt); (obtain ⟨oc, ol⟩ := hT.oc HX.out); (obtain ⟨oc2, -⟩ := hT.oc hv); (obtain ⟨fc, -, fl⟩ := hT.fc HIE.out); (rw [HOX.out] at oc); (have hnb := HNB.out); clear hT hS; go_simp; first | done | exact rfl)); (case putsd17 => (first | (simp only [Act.put, List.setIfInBounds_toArray, List.set_cons_zero, List.set_cons_succ]; first | done | exact rfl) | rfl)); (case' nextsd17 => skip))
            (refine' GG.grow_lit (GG.BelS.still) rfl ?wtsd18 ?runsd18 ?putsd18 ?nextsd18; (case wtsd18 => rfl); (case runsd18 => (intro w' hS; (obtain ⟨dn, s, hS⟩ := hS); (have hT := HT6.out.old hS.b); (obtain ⟨t0, t1, t2, -⟩ := hT.t.o3); (have htl := hT.t.lt); (obtain ⟨x0, x1, x2, x3, x4, -, -, -, -, -⟩ := hT.web.k.o5); (have hpl := hT.web.k.lt); (obtain ⟨oc, ol⟩ := hT.oc HX.out); (obtain ⟨oc2, -⟩ := hT.oc hv); (obtain ⟨fc, -, fl⟩ := hT.fc HIE.out); (rw [HOX.out] at oc); (have hnb := HNB.out); clear hT hS; go_simp; first | done | exact rfl)); (case putsd18 => (first | (simp only [Act.put, List.setIfInBounds_toArray, List.set_cons_zero, List.set_cons_succ]; first | done | exact rfl) | rfl)); (case' nextsd18 => skip))
            (refine' GG.grow_lit (GG.BelS.still) rfl ?wtsd19 ?runsd19 ?putsd19 ?nextsd19; (case wtsd19 => rfl); (case runsd19 => (intro w' hS; (obtain ⟨dn, s, hS⟩ := hS); (have hT := HT6.out.old hS.b); (obtain ⟨t0, t1, t2, -⟩ := hT.t.o3); (have htl := hT.t.lt); (obtain ⟨x0, x1, x2, x3, x4, -, -, -, -, -⟩ := hT.web.k.o5); (have hpl := hT.web.k.lt); (obtain ⟨oc, ol⟩ := hT.oc HX.out); (obtain ⟨oc2, -⟩ := hT.oc hv); (obtain ⟨fc, -, fl⟩ := hT.fc HIE.out); (rw [HOX.out] at oc); (have hnb := HNB.out); clear hT hS; go_simp; first | done | exact rfl)); (case putsd19 => (first | (simp only [Act.put, List.setIfInBounds_toArray, List.set_cons_zero, List.set_cons_succ]; first | done | exact rfl) | rfl)); (case' nextsd19 => skip))
            (refine' GG.grow_lit (GG.BelS.still) rfl ?wtsd20 ?runsd20 ?putsd20 ?nextsd20; (case wtsd20 => rfl); (case runsd20 => (intro w' hS; (obtain ⟨dn, s, hS⟩ := hS); (have hT := HT6.out.old hS.b); (obtain ⟨t0, t1, t2, -⟩ := hT.t.o3); (have htl := hT.t.lt); (obtain ⟨x0, x1, x2, x3, x4, -, -, -, -, -⟩ := hT.web.k.o5); (have hpl := hT.web.k.lt); (obtain ⟨oc, ol⟩ := hT.oc HX.out); (obtain ⟨oc2, -⟩ := hT.oc hv); (obtain ⟨fc, -, fl⟩ := hT.fc HIE.out); (rw [HOX.out] at oc); (have hnb := HNB.out); clear hT hS; go_simp; first | done | exact rfl)); (case putsd20 => (first | (simp only [Act.put, List.setIfInBounds_toArray, List.set_cons_zero, List.set_cons_succ]; first | done | exact rfl) | rfl)); (case' nextsd20 => skip))
            (refine' GG.grow_lit (GG.BelS.still) rfl ?wtsd21 ?runsd21 ?putsd21 ?nextsd21; (case wtsd21 => rfl); (case runsd21 => (intro w' hS; (obtain ⟨dn, s, hS⟩ := hS); (have hT := HT6.out.old hS.b); (obtain ⟨t0, t1, t2, -⟩ := hT.t.o3); (have htl := hT.t.lt); (obtain ⟨x0, x1, x2, x3, x4, -, -, -, -, -⟩ := hT.web.k.o5); (have hpl := hT.web.k.lt); (obtain ⟨oc, ol⟩ := hT.oc HX.out); (obtain ⟨oc2, -⟩ := hT.oc hv); (obtain ⟨fc, -, fl⟩ := hT.fc HIE.out); (rw [HOX.out] at oc); (have hnb := HNB.out); clear hT hS; go_simp; first | done | exact rfl)); (case putsd21 => (first | (simp only [Act.put, List.setIfInBounds_toArray, List.set_cons_zero, List.set_cons_succ]; first | done | exact rfl) | rfl)); (case' nextsd21 => skip))
            (refine' GG.grow_lit (GG.BelS.still) rfl ?wtsd22 ?runsd22 ?putsd22 ?nextsd22; (case wtsd22 => rfl); (case runsd22 => (intro w' hS; (obtain ⟨dn, s, hS⟩ := hS); (have hT := HT6.out.old hS.b); (obtain ⟨t0, t1, t2, -⟩ := hT.t.o3); (have htl := hT.t.lt); (obtain ⟨x0, x1, x2, x3, x4, -, -, -, -, -⟩ := hT.web.k.o5); (have hpl := hT.web.k.lt); (obtain ⟨oc, ol⟩ := hT.oc HX.out); (obtain ⟨oc2, -⟩ := hT.oc hv); (obtain ⟨fc, -, fl⟩ := hT.fc HIE.out); (rw [HOX.out] at oc); (have hnb := HNB.out); clear hT hS; go_simp; first | done | exact rfl)); (case putsd22 => (first | (simp only [Act.put, List.setIfInBounds_toArray, List.set_cons_zero, List.set_cons_succ]; first | done | exact rfl) | rfl)); (case' nextsd22 => skip))
            (refine' GG.grow_lit (GG.BelS.still) rfl ?wtsd23 ?runsd23 ?putsd23 ?nextsd23; (case wtsd23 => rfl); (case runsd23 => (intro w' hS; (obtain ⟨dn, s, hS⟩ := hS); (have hT := HT6.out.old hS.b); (obtain ⟨t0, t1, t2, -⟩ := hT.t.o3); (have htl := hT.t.lt); (obtain ⟨x0, x1, x2, x3, x4, -, -, -, -, -⟩ := hT.web.k.o5); (have hpl := hT.web.k.lt); (obtain ⟨oc, ol⟩ := hT.oc HX.out); (obtain ⟨oc2, -⟩ := hT.oc hv); (obtain ⟨fc, -, fl⟩ := hT.fc HIE.out); (rw [HOX.out] at oc); (have hnb := HNB.out); clear hT hS; go_simp; first | done | exact rfl)); (case putsd23 => (first | (simp only [Act.put, List.setIfInBounds_toArray, List.set_cons_zero, List.set_cons_succ]; first | done | exact rfl) | rfl)); (case' nextsd23 => skip))
            (refine' GG.grow_lit (GG.BelS.still) rfl ?wtsd24 ?runsd24 ?putsd24 ?nextsd24; (case wtsd24 => rfl); (case runsd24 => (intro w' hS; (obtain ⟨dn, s, hS⟩ := hS); (have hT := HT6.out.old hS.b); (obtain ⟨t0, t1, t2, -⟩ := hT.t.o3); (have htl := hT.t.lt); (obtain ⟨x0, x1, x2, x3, x4, -, -, -, -, -⟩ := hT.web.k.o5); (have hpl := hT.web.k.lt); (obtain ⟨oc, ol⟩ := hT.oc HX.out); (obtain ⟨oc2, -⟩ := hT.oc hv); (obtain ⟨fc, -, fl⟩ := hT.fc HIE.out); (rw [HOX.out] at oc); (have hnb := HNB.out); clear hT hS; go_simp; first | done | exact rfl)); (case putsd24 => (first | (simp only [Act.put, List.setIfInBounds_toArray, List.set_cons_zero, List.set_cons_succ]; first | done | exact rfl) | rfl)); (case' nextsd24 => skip))
            (refine' GG.grow_lit (GG.BelS.still) rfl ?wtsd25 ?runsd25 ?putsd25 ?nextsd25; (case wtsd25 => rfl); (case runsd25 => (intro w' hS; (obtain ⟨dn, s, hS⟩ := hS); (have hT := HT6.out.old hS.b); (obtain ⟨t0, t1, t2, -⟩ := hT.t.o3); (have htl := hT.t.lt); (obtain ⟨x0, x1, x2, x3, x4, -, -, -, -, -⟩ := hT.web.k.o5); (have hpl := hT.web.k.lt); (obtain ⟨oc, ol⟩ := hT.oc HX.out); (obtain ⟨oc2, -⟩ := hT.oc hv); (obtain ⟨fc, -, fl⟩ := hT.fc HIE.out); (rw [HOX.out] at oc); (have hnb := HNB.out); clear hT hS; go_simp; first | done | exact rfl)); (case putsd25 => (first | (simp only [Act.put, List.setIfInBounds_toArray, List.set_cons_zero, List.set_cons_succ]; first | done | exact rfl) | rfl)); (case' nextsd25 => skip))
            (refine' GG.grow_lit (GG.BelS.still) rfl ?wtsd26 ?runsd26 ?putsd26 ?nextsd26; (case wtsd26 => rfl); (case runsd26 => (intro w' hS; (obtain ⟨dn, s, hS⟩ := hS); (have hT := HT6.out.old hS.b); (obtain ⟨t0, t1, t2, -⟩ := hT.t.o3); (have htl := hT.t.lt); (obtain ⟨x0, x1, x2, x3, x4, -, -, -, -, -⟩ := hT.web.k.o5); (have hpl := hT.web.k.lt); (obtain ⟨oc, ol⟩ := hT.oc HX.out); (obtain ⟨oc2, -⟩ := hT.oc hv); (obtain ⟨fc, -, fl⟩ := hT.fc HIE.out); (rw [HOX.out] at oc); (have hnb := HNB.out); clear hT hS; go_simp; first | done | exact rfl)); (case putsd26 => (first | (simp only [Act.put, List.setIfInBounds_toArray, List.set_cons_zero, List.set_cons_succ]; first | done | exact rfl) | rfl)); (case' nextsd26 => skip))
            (refine' GG.grow_lit (GG.BelS.still) rfl ?wtsd27 ?runsd27 ?putsd27 ?nextsd27; (case wtsd27 => rfl); (case runsd27 => (intro w' hS; (obtain ⟨dn, s, hS⟩ := hS); (have hT := HT6.out.old hS.b); (obtain ⟨t0, t1, t2, -⟩ := hT.t.o3); (have htl := hT.t.lt); (obtain ⟨x0, x1, x2, x3, x4, -, -, -, -, -⟩ := hT.web.k.o5); (have hpl := hT.web.k.lt); (obtain ⟨oc, ol⟩ := hT.oc HX.out); (obtain ⟨oc2, -⟩ := hT.oc hv); (obtain ⟨fc, -, fl⟩ := hT.fc HIE.out); (rw [HOX.out] at oc); (have hnb := HNB.out); clear hT hS; go_simp; first | done | exact rfl)); (case putsd27 => (first | (simp only [Act.put, List.setIfInBounds_toArray, List.set_cons_zero, List.set_cons_succ]; first | done | exact rfl) | rfl)); (case' nextsd27 => skip))
            (refine' GG.grow_lit (GG.BelS.still) rfl ?wtsd28 ?runsd28 ?putsd28 ?nextsd28; (case wtsd28 => rfl); (case runsd28 => (intro w' hS; (obtain ⟨dn, s, hS⟩ := hS); (have hT := HT6.out.old hS.b); (obtain ⟨t0, t1, t2, -⟩ := hT.t.o3); (have htl := hT.t.lt); (obtain ⟨x0, x1, x2, x3, x4, -, -, -, -, -⟩ := hT.web.k.o5); (have hpl := hT.web.k.lt); (obtain ⟨oc, ol⟩ := hT.oc HX.out); (obtain ⟨oc2, -⟩ := hT.oc hv); (obtain ⟨fc, -, fl⟩ := hT.fc HIE.out); (rw [HOX.out] at oc); (have hnb := HNB.out); clear hT hS; go_simp; first | done | exact rfl)); (case putsd28 => (first | (simp only [Act.put, List.setIfInBounds_toArray, List.set_cons_zero, List.set_cons_succ]; first | done | exact rfl) | rfl)); (case' nextsd28 => skip))
            (refine' GG.grow_lit (GG.BelS.still) rfl ?wtsd29 ?runsd29 ?putsd29 ?nextsd29; (case wtsd29 => rfl); (case runsd29 => (intro w' hS; (obtain ⟨dn, s, hS⟩ := hS); (have hT := HT6.out.old hS.b); (obtain ⟨t0, t1, t2, -⟩ := hT.t.o3); (have htl := hT.t.lt); (obtain ⟨x0, x1, x2, x3, x4, -, -, -, -, -⟩ := hT.web.k.o5); (have hpl := hT.web.k.lt); (obtain ⟨oc, ol⟩ := hT.oc HX.out); (obtain ⟨oc2, -⟩ := hT.oc hv); (obtain ⟨fc, -, fl⟩ := hT.fc HIE.out); (rw [HOX.out] at oc); (have hnb := HNB.out); clear hT hS; go_simp; first | done | exact rfl)); (case putsd29 => (first | (simp only [Act.put, List.setIfInBounds_toArray, List.set_cons_zero, List.set_cons_succ]; first | done | exact rfl) | rfl)); (case' nextsd29 => skip))
            (refine' GG.grow_lit (GG.BelS.still) rfl ?wtsd30 ?runsd30 ?putsd30 ?nextsd30; (case wtsd30 => rfl); (case runsd30 => (intro w' hS; (obtain ⟨dn, s, hS⟩ := hS); (have hT := HT6.out.old hS.b); (obtain ⟨t0, t1, t2, -⟩ := hT.t.o3); (have htl := hT.t.lt); (obtain ⟨x0, x1, x2, x3, x4, -, -, -, -, -⟩ := hT.web.k.o5); (have hpl := hT.web.k.lt); (obtain ⟨oc, ol⟩ := hT.oc HX.out); (obtain ⟨oc2, -⟩ := hT.oc hv); (obtain ⟨fc, -, fl⟩ := hT.fc HIE.out); (rw [HOX.out] at oc); (have hnb := HNB.out); clear hT hS; go_simp; first | done | exact rfl)); (case putsd30 => (first | (simp only [Act.put, List.setIfInBounds_toArray, List.set_cons_zero, List.set_cons_succ]; first | done | exact rfl) | rfl)); (case' nextsd30 => skip))
            (refine' GG.grow_lit (GG.BelS.still) rfl ?wtsd31 ?runsd31 ?putsd31 ?nextsd31; (case wtsd31 => rfl); (case runsd31 => (intro w' hS; (obtain ⟨dn, s, hS⟩ := hS); (have hT := HT6.out.old hS.b); (obtain ⟨t0, t1, t2, -⟩ := hT.t.o3); (have htl := hT.t.lt); (obtain ⟨x0, x1, x2, x3, x4, -, -, -, -, -⟩ := hT.web.k.o5); (have hpl := hT.web.k.lt); (obtain ⟨oc, ol⟩ := hT.oc HX.out); (obtain ⟨oc2, -⟩ := hT.oc hv); (obtain ⟨fc, -, fl⟩ := hT.fc HIE.out); (rw [HOX.out] at oc); (have hnb := HNB.out); clear hT hS; go_simp; first | done | exact rfl)); (case putsd31 => (first | (simp only [Act.put, List.setIfInBounds_toArray, List.set_cons_zero, List.set_cons_succ]; first | done | exact rfl) | rfl)); (case' nextsd31 => skip))
            (refine' GG.grow_lit (GG.BelS.still) rfl ?wtsd32 ?runsd32 ?putsd32 ?nextsd32; (case wtsd32 => rfl); (case runsd32 => (intro w' hS; (obtain ⟨dn, s, hS⟩ := hS); (have hT := HT6.out.old hS.b); (obtain ⟨t0, t1, t2, -⟩ := hT.t.o3); (have htl := hT.t.lt); (obtain ⟨x0, x1, x2, x3, x4, -, -, -, -, -⟩ := hT.web.k.o5); (have hpl := hT.web.k.lt); (obtain ⟨oc, ol⟩ := hT.oc HX.out); (obtain ⟨oc2, -⟩ := hT.oc hv); (obtain ⟨fc, -, fl⟩ := hT.fc HIE.out); (rw [HOX.out] at oc); (have hnb := HNB.out); clear hT hS; go_simp; first | done | exact rfl)); (case putsd32 => (first | (simp only [Act.put, List.setIfInBounds_toArray, List.set_cons_zero, List.set_cons_succ]; first | done | exact rfl) | rfl)); (case' nextsd32 => skip))
            intro dn s w7 hS _ _
            have HT7 := Lib.hid (HT6.out.old hS.b)
            have HK7 := Lib.hid (HK6.out.on (hS.b.mono HK6.out.size))
            clear hS DS0
            refine wpAny_ready (rs := [33]) (by kernel_rfl) (by simp) (AllReady.cons rfl (fun K hK => ?_) AllReady.nil)
            go_simp
            go_wp2_with (go_at_call 36; refine (HIH.out x f nx1 _ HT7.out HF.out HN1.out HX.out (by have := HOX.out; omega) (by have := HOX.out; have := HM.out; omega)).mono ?_; rintro e w8 ⟨b9, f9, nx9, rfl, hT8, hk8, hn8, hg8, hsq, hdd⟩)
            have HT8 := Lib.hid hT8
            have HK8 := Lib.hid (HK7.out.trans hk8)
            have HN8 := Lib.hid hn8
            have HG8 := Lib.hid (HG1.out.trans (hg8.mono (o' := oL off v) (by have := HOX.out; omega)))
            have HJ8 : Hid (nL nx9 v = j) := Lib.hid (by rw [hg8.2 v (by have := HOX.out; omega), HJ.out])
            have HSQ := Lib.hid hsq
            have HDD := Lib.hid hdd
            clear hT8 hk8 hn8 hg8 hsq hdd HT6 HT7 HK6 HK7
            refine wpAny_ready (rs := [34]) (by kernel_rfl) (by simp) (AllReady.cons rfl (fun K hK => ?_) AllReady.nil)
            go_simp
            refine hK _ _ ?_
            clear hK K
            refine wpAny_done (by kernel_rfl) ?_ _
            cases b9 with
            | true =>
              obtain ⟨hsame, hq⟩ := (HSQ.out rfl).step HF.out HIE.out HXY.out HIV.out HOX.out HNE.out
              obtain ⟨fc, ff, fl⟩ := HT8.out.fc HIE.out
              have hT9 := HT8.out.setF i (fL f9 i + y)
              have hwf : IntKind.i64.wrap (fL f9 i + y) = fL f9 i + y := IntWalk.i64_in _ (by have := HF.out.one i HIE.out; omega)
              have HP : Hid (SendPost N E A B off ev sv (.slice (some ⟨db, do_, none⟩) B.length dc) us p tb ab ob nb fb w f nx v (.returned (.bool true)) (w8.setCell ⟨fb, i, none⟩ (.int .i64 (fL f9 i + y)))) := Lib.hid ⟨true, _, nx9, rfl, hT9, HK8.out.setCell (fun h => h.1 rfl) _ _, HN8.out, HG8.out, fun _ => hq, fun h => (by cases h)⟩
              obtain ⟨t0, t1, t2, -⟩ := HT8.out.t.o3
              have htl := HT8.out.t.lt
              obtain ⟨x0, x1, x2, x3, x4, -, -, -, -, -⟩ := HT8.out.web.k.o5
              have hpl := HT8.out.web.k.lt
              clear hsame hq hT9 HSQ HDD
              go_wp2_with fail
              go_ret
              exact HP.out
            | false =>
              obtain ⟨hff, hdv, hdx⟩ := HDD.out rfl
              subst hff
              have hT9 := HT8.out.setN v ((j : Int) + 1)
              obtain ⟨nc, nf, nl⟩ := HT8.out.nc hv
              rw [HJ8.out] at nc
              obtain ⟨t0, t1, t2, -⟩ := HT8.out.t.o3
              have htl := HT8.out.t.lt
              have HR1 : Hid (SendRel N E A B off ev sv (.slice (some ⟨db, do_, none⟩) B.length dc) us p tb ab ob nb fb w f9 nx v (w8.setCell ⟨nb, v, none⟩ (.int .i64 ((j : Int) + 1)))) := Lib.hid ⟨nx9.set v ((j : Int) + 1), hT9, HK8.out.setCell (fun h => h.2 rfl) _ _, HN8.out.next hv HJ8.out hlt, HG8.out.trans (NGrow.next HN8.out hv HJ8.out), fun h => next_step HN8.out hv HJ8.out HIJ.out HXY.out (hdv (HD1.out h)) (fun _ _ => hdx)⟩
              have HM1 : Hid (nxA (w8.setCell ⟨nb, v, none⟩ (.int .i64 ((j : Int) + 1))) nb v = j + 1) := Lib.hid (by rw [hT9.nxA hv, nL_set (by rw [HN8.out.len]; exact hv), if_pos rfl]; omega)
              have hwj := HWJ.out
              clear hT9 hdv hdx HSQ HDD
              go_wp2_with fail
              go_roundw
              case rel => exact HR1.out
              case measure => rw [HM1.out, HMEAS.out, HJ.out]; omega
        · have hnz : (oL off x == oL off v + 1) = false := by simpa using ho
          have hT6 := HT6.out
          obtain ⟨t0, t1, t2, -⟩ := hT6.t.o3
          have htl := hT6.t.lt
          obtain ⟨x0, x1, x2, x3, x4, -, -, -, -, -⟩ := hT6.web.k.o5
          have hpl := hT6.web.k.lt
          obtain ⟨oc, ol⟩ := hT6.oc HX.out
          obtain ⟨oc2, -⟩ := hT6.oc hv
          obtain ⟨fc, -, fl⟩ := hT6.fc HIE.out
          clear hT6
          go_wp2_with fail
          go_quiet (fail)
          obtain ⟨w7, hw7⟩ := named (w6.drewN nq)
          have hb7 : Below w6.heap.size w6 w7 := by rw [hw7]; exact below_drewN (Below.refl _ _) nq
          rw [← hw7]
          clear hw7 t0 t1 t2 htl x0 x1 x2 x3 x4 hpl oc ol oc2 fc fl
          have HJ9 := HJ
          have hT7 := HT6.out.old hb7
          obtain ⟨t0, t1, t2, -⟩ := hT7.t.o3
          have htl := hT7.t.lt
          obtain ⟨nc, nf, nl⟩ := hT7.nc hv
          rw [HJ.out] at nc
          have hT8 := hT7.setN v ((j : Int) + 1)
          have HR1 : Hid (SendRel N E A B off ev sv (.slice (some ⟨db, do_, none⟩) B.length dc) us p tb ab ob nb fb w f nx v (w7.setCell ⟨nb, v, none⟩ (.int .i64 ((j : Int) + 1)))) := Lib.hid ⟨nx1.set v ((j : Int) + 1), hT8, (HK6.out.on (hb7.mono HK6.out.size)).setCell (fun h => h.2 rfl) _ _, HN1.out.next hv HJ.out hlt, HG1.out.trans (NGrow.next HN1.out hv HJ.out), fun h => next_step HN1.out hv HJ.out HIJ.out HXY.out (HD1.out h) (fun h1 h2 => absurd h1 ho)⟩
          have HM1 : Hid (nxA (w7.setCell ⟨nb, v, none⟩ (.int .i64 ((j : Int) + 1))) nb v = j + 1) := Lib.hid (by rw [hT8.nxA hv, nL_set (by rw [HN1.out.len]; exact hv), if_pos rfl]; omega)
          have hwj := HWJ.out
          clear hT7 hT8 hb7 HJ9
          go_wp2_with fail
          go_roundw
          case rel => exact HR1.out
          case measure => rw [HM1.out, HMEAS.out, HJ.out]; omega
end
end Go.Proofs.YtleheaffipokfaaDoor
