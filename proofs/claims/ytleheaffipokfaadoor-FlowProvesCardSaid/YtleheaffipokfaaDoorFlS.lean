/-
  How many steps off: the program's steps.
-/
import Derived.Test.YtleheaffipokfaaDoorFlA
import Derived.Test.YtleheaffipokfaaDoorFlB
import Derived.Test.YtleheaffipokfaaDoorFlK
import Derived.Test.YtleheaffipokfaaDoorFlR
import Derived.RegionTactic
import Derived.BigQuiet
namespace Go.Proofs.YtleheaffipokfaaDoor
open Go.RowKit

/-- Places as they are told. -/
def zV (l : List Nat) : List Value := l.map fun v : Nat => Value.int .i64 (v : Int)
theorem zV_len (l : List Nat) : (zV l).length = l.length := by simp [zV]
/-- What steps has in memory: how far off, the row. -/
structure StepM (w : World) (ob B : Nat) (off : List Int) (row : List Nat) (rv : Value) (wr : World) : Prop where
  o : Blk wr ob (numI off) 3
  r : wr.ownsRow B 3 1 rv row.length (zV row)
  b : Below w.heap.size w wr
  lo : w.heap.size ≤ ob
  ob : ob < B
  sz : B ≤ wr.heap.size
section
variable {w wr wr' : World} {ob B : Nat} {off : List Int} {row : List Nat} {rv : Value}
theorem StepM.old (h : StepM w ob B off row rv wr) (hb : Below wr.heap.size wr wr') : StepM w ob B off row rv wr' :=
  ⟨h.o.keep hb, own_below h.r hb, bOn6 h.b hb, h.lo, h.ob, Nat.le_trans h.sz hb.size⟩
theorem StepM.set (h : StepM w ob B off row rv wr) (v : Nat) (c : Int) : StepM w ob B (off.set v c) row rv (wr.setCell ⟨ob, v, none⟩ (.int .i64 c)) := by
  refine ⟨?_, own_other h.r (own_ne h.r h.ob) _ _, h.b.setCell h.lo _, h.lo, h.ob, by simpa using h.sz⟩
  have := h.o.set v (.int .i64 c)
  rwa [numI_set] at this
theorem StepM.app (h : StepM w ob B off row rv wr) (v : Nat) {g : Nat} (hb : Below wr.heap.size wr wr') (hg : Blk wr' g #[.int .i64 (v : Int)] 3) (hl : row.length ≤ 100000) :
    ∃ q c w', (Builtin.append_ #[23, 23] 23 #[rv, .slice (some ⟨g, 0, none⟩) 1 1]).run Tryd.prog wr' = .ok (.slice q (row.length + 1) c) w' ∧ StepM w ob B off (row ++ [v]) (.slice q (row.length + 1) c) w' := by
  have h' := h.old hb
  obtain ⟨q, c, w', hr, h1, h2⟩ := app1 (x := .int .i64 (v : Int)) Tryd.underlying23 infoInt rfl rfl (by decide) h'.r hg hl h'.sz
  refine ⟨q, c, w', hr, h'.o.grownO h2 (own_ne h'.r h'.ob), ?_, below_grownO h'.b h2 (fun g hg => by have := own_ge h'.r g hg; have := h.lo; have := h.ob; omega), h.lo, h.ob, Nat.le_trans h'.sz h2.size⟩
  rw [List.length_append]
  have e9 : zV (row ++ [v]) = zV row ++ [.int .i64 (v : Int)] := by simp [zV]
  rw [e9]
  exact h1
/-- A cell of the row. -/
theorem StepM.cell {q : Option Addr} {c : Nat} (h : StepM w ob B off row (.slice q row.length c) wr) {k v : Nat} (hk : row[k]? = some v) : ∃ g, q = some ⟨g, 0, none⟩ ∧ wr.cell? ⟨g, k, none⟩ = some (.int .i64 (v : Int)) ∧ g < wr.heap.size := by
  have hkl : k < row.length := (List.getElem?_eq_some_iff.1 hk).1
  rcases owns_blk h.r with ⟨e, e0⟩ | ⟨g, c', cur, e, hb, _⟩
  · omega
  · injection e with e1 e2 e3
    subst e1
    refine ⟨g, rfl, (h.r.cellAt k (by omega)).trans ?_, hb.lt⟩
    simp [zV, hk]
theorem StepM.offc (h : StepM w ob B off row rv wr) {v : Nat} (hv : v < off.length) : wr.cell? ⟨ob, v, none⟩ = some (.int .i64 (oL off v)) ∧ wr.frozen? ⟨ob, v, none⟩ = false ∧ ob < wr.heap.size := by
  rw [oL_at hv]
  exact ⟨h.o.cell v (numI_at hv), h.o.free v, h.o.lt⟩
end
/-- What steps answers. -/
def StepsPost (w : World) (N : Nat) (E : Edg) (f : List Int) (way : Int) (S : VSet) (e : Ending) (w' : World) : Prop :=
  ∃ ob off, e = .returned (.slice (some ⟨ob, 0, none⟩) N N) ∧ Blk w' ob (numI off) 3 ∧ w.heap.size ≤ ob ∧ LevQ N E f way S off ∧ Below w.heap.size w w'
/-- The first loop's head. -/
def Step1 (w : World) (ob B N : Nat) (E : Edg) (f : List Int) (way : Int) (S : VSet) (rv iv : Value) (wr : World) : Prop :=
  ∃ (k : Nat) (off : List Int) (row : List Nat), k ≤ N ∧ iv = .int .i64 k ∧ Bfs N E f way S k 0 off row ∧ StepM w ob B off row rv wr
/-- The second one's. -/
def Step2 (w : World) (ob B N : Nat) (E : Edg) (f : List Int) (way : Int) (S : VSet) (rv iv : Value) (wr : World) : Prop :=
  ∃ (k : Nat) (off : List Int) (row : List Nat), k ≤ row.length ∧ iv = .int .i64 k ∧ Bfs N E f way S N k off row ∧ StepM w ob B off row rv wr
/-- The third one's. -/
def Step3 (w : World) (ob B N : Nat) (E : Edg) (f : List Int) (way : Int) (S : VSet) (k u : Nat) (rv iv : Value) (wr : World) : Prop :=
  ∃ (j : Nat) (off : List Int) (row : List Nat), j ≤ (atL E u).length ∧ iv = .int .i64 j ∧ k < row.length ∧ row[k]? = some u ∧ Bfs N E f way S N k off row ∧ Looked E f way u j row ∧ StepM w ob B off row rv wr

section
variable {P : Nat → Prop} {w : World} {p N : Nat} {E : Edg} {A B M : List Bool} {f : List Int} {ev sv dv fv mv : Value} {ab : Nat} {us : List Value} {way : Int}
set_option maxHeartbeats 4000000 in
set_option maxRecDepth 100000 in
theorem steps_is (h : WebS P w p N E A B ev sv dv fv ab us) (hf : I64s w fv f) (hfl : f.length = E.length) (hm : Bools w mv M) (hml : M.length = N) (hway : way = 1 ∨ way = -1) :
    Calls Tryd.prog 33 #[pt p, mv, .int .i64 way] w (StepsPost w N E f way (setB M)) := by
  obtain ⟨mq, mc, rfl⟩ := hm.shape
  rw [hml] at hm
  rw [hml]
  have hnn := h.nn
  have HW := Lib.hid h
  have HF := Lib.hid hf
  have HFL := Lib.hid hfl
  have HM := Lib.hid hm
  have HML := Lib.hid hml
  have HWAY := Lib.hid hway
  obtain ⟨w1, hw1⟩ := named (w.alloc (.cells #[.int .i64 (-1)] 3))
  have hb1 : Below w.heap.size w w1 := by rw [hw1]; exact below_alloc1 _
  have k1 : Blk w1 w.heap.size #[.int .i64 (-1)] 3 := by rw [hw1]; exact Blk.new _ _ _ _ rfl
  have HB1 := Lib.hid hb1
  have HK1 := Lib.hid k1
  have e1 := hw1.symm
  obtain ⟨x0, x1, x2, x3, x4, -, -, -, -, -⟩ := (h.old hb1).k.o5
  have hpl := (h.old hb1).k.lt
  clear h hf hfl hm hml hway hb1 k1 hw1
  go_enter Tryd.func33, Tryd.ntmps33
  go_wp2_with fail
  clear e1
  refine (RI.hrepeat N (by omega) w.heap.size _ HK1.out).mono ?_
  rintro e w2 ⟨rfl, hk2, hb2⟩
  obtain ⟨ob, hob⟩ : ∃ ob, w1.heap.size = ob := ⟨_, rfl⟩
  rw [hob] at hk2
  rw [hob]
  have HST : Hid (StepM w ob w2.heap.size (List.replicate N (-1)) [] (.slice none 0 0) w2) := Lib.hid ⟨by rw [numI_rep]; exact hk2, World.ownsRow_nil _ _ _ _, bOn6 HB1.out hb2, by have := HB1.out.size; omega, hk2.lt, Nat.le_refl _⟩
  obtain ⟨Bs, hBs⟩ : ∃ Bs, w2.heap.size = Bs := ⟨_, rfl⟩
  rw [hBs] at HST
  clear hk2 hb2 hob hBs HB1 HK1 x0 x1 x2 x3 x4
  go_wp2_with fail
  go_loopw [8, 9, 10, 26] (fun rv _ _ iv wr => Step1 w ob Bs N E f way (setB M) rv iv wr) (fun _ _ _ iv _ => N - (intOf iv).toNat)
  case atStart => exact ⟨0, _, _, Nat.zero_le _, rfl, Bfs.start _ _ _ _ _, HST.out⟩
  case round =>
    obtain ⟨k, off, row, hk, rfl, hB, hs⟩ := hrel
    have hsm := hB.small hk
    obtain ⟨q9, c9, rfl⟩ := own_shape hs.r
    by_cases hlt : k < N
    · have hki : (k : Int) < (N : Int) := by omega
      obtain ⟨mb, mo, rfl, hmc⟩ := (HM.out.below hs.b).at (k := k) (by rw [HML.out]; exact hlt)
      have hmlt := World.block_lt_of_cell? wr _ hmc
      have hst : setB M k = M[k]'(by rw [HML.out]; exact hlt) := setB_at (by rw [HML.out]; exact hlt)
      rw [← hst] at hmc
      have HBF := Lib.hid hB
      clear HST hst
      cases hb : setB M k with
      | true =>
        rw [hb] at hmc
        obtain ⟨oc, of, ol⟩ := hs.offc (v := k) (by rw [hB.len]; exact hlt)
        obtain ⟨q2, c2, w5, hr5, hs5⟩ := (hs.set k 0).app k (below_alloc1 _) (Blk.new _ _ _ wr.heap.size (by simp)) (by omega)
        have HR5 := Lib.hid hr5
        have HS5 := Lib.hid hs5
        have HBN := Lib.hid (hB.mark_yes hb hlt)
        clear hr5 hs5 hs hB hsm
        go_wp2_with (at_builtin; refine wpList_append_run (by rfl) _ _ _ rfl _ _ _ rfl rfl HR5.out ?_)
        go_roundw
        case rel => exact ⟨k + 1, _, _, by omega, by go_num, HBN.out, HS5.out⟩
        case measure => simp [intOf]; omega
      | false =>
        rw [hb] at hmc
        have HS := Lib.hid hs
        have HBN := Lib.hid (hB.mark_no hb)
        clear hs hB hsm
        go_wp2_with fail
        go_roundw
        case rel => exact ⟨k + 1, _, _, by omega, by go_num, HBN.out, HS.out⟩
        case measure => simp [intOf]; omega
    · obtain rfl : k = N := by omega
      have HBN := Lib.hid hB
      have HS := Lib.hid hs
      clear HST hB hs hsm hlt
      go_wp2_with fail
      go_loopw [8, 11, 12, 14, 15, 16] (fun rv iv _ _ _ _ wr => Step2 w ob Bs k E f way (setB M) rv iv wr) (fun _ iv _ _ _ _ _ => k - (intOf iv).toNat)
      case atStart => exact ⟨0, off, row, Nat.zero_le _, rfl, HBN.out, HS.out⟩
      case round =>
        obtain ⟨m, off, row, hm, rfl, hB, hs⟩ := hrel
        have hsm := hB.small (Nat.le_refl _)
        obtain ⟨q9, c9, rfl⟩ := own_shape hs.r
        have hN := hB.len
        have hmi : (m : Int) ≤ 4096 := by omega
        by_cases hlt : m < row.length
        · obtain ⟨u, hu⟩ : ∃ u, row[m]? = some u := ⟨_, List.getElem?_eq_getElem hlt⟩
          obtain ⟨g, rfl, gc, gl⟩ := hs.cell hu
          have huk : u < k := hB.mem u (List.mem_of_getElem? hu)
          obtain ⟨x0, x1, x2, x3, x4, -, -, -, -, -⟩ := (HW.out.old hs.b).k.o5
          have hpl := (HW.out.old hs.b).k.lt
          have huu : u < us.length := by rw [HW.out.ul]; exact huk
          obtain ⟨uv, huv⟩ : ∃ uv, us[u] = uv := ⟨_, rfl⟩
          have hus : us[u]? = some uv := by rw [← huv]; exact List.getElem?_eq_getElem huu
          have hac := (HW.out.old hs.b).b.cell u (by rw [List.getElem?_toArray]; exact hus)
          have hal := (HW.out.old hs.b).b.lt
          have hui := ((HW.out.old hs.b).u u uv hus).1
          obtain ⟨uq, uc, rfl⟩ := hui.shape
          have hki : (u : Int) < (k : Int) := by omega
          have HR0 : Hid (Step3 w ob Bs k E f way (setB M) m u (.slice (some ⟨g, 0, none⟩) row.length c9) (.int .i64 (0 : Nat)) wr) := Lib.hid ⟨0, off, row, Nat.zero_le _, rfl, hlt, hu, hB, Looked.zero, hs⟩
          have hai : (atL E u).length ≤ 32768 := by have := atTo_len E u E.length; have := HW.out.en; unfold atL; omega
          have HUI := Lib.hid ((HW.out.u u _ hus).1)
          clear hus huv huu hui hs hB hsm hN HBN HS hu
          go_wp2_with fail
          clear x0 x1 x2 x3 x4 hpl hac hal gc gl
          go_loopw [8, 14, 15, 16, 58] (fun rv _ _ _ iv wr => Step3 w ob Bs k E f way (setB M) m u rv iv wr) (fun _ _ _ _ iv _ => (atL E u).length - (intOf iv).toNat)
          case atStart => exact HR0.out
          case round =>
            obtain ⟨j, off, row, hj, rfl, hml, hu, hB, hL, hs⟩ := hrel
            have hsm := hB.small (Nat.le_refl _)
            have hlen := hB.len
            obtain ⟨q9, c9, rfl⟩ := own_shape hs.r
            clear HR0
            by_cases hlt : j < (atL E u).length
            · obtain ⟨i, hiE, hij, -⟩ := atTo_mem.1 (List.getElem_mem hlt)
              have hji : (j : Int) < ((atL E u).length : Int) := by omega
              obtain ⟨b, o, rfl, hic⟩ := (HUI.out.below hs.b).at hlt
              have hil := World.block_lt_of_cell? wr _ hic
              have hij2 : (atL E u)[j]? = some (i : Int) := by rw [List.getElem?_eq_getElem hlt]; exact congrArg some hij
              rw [show (atL E u)[j] = (i : Int) from hij] at hic
              obtain ⟨x, y, hxy⟩ : ∃ x y, alongE E i u = (x, y) := ⟨_, _, rfl⟩
              have hx : x < k := by
                have := HW.out.ein i hiE
                unfold alongE at hxy
                split at hxy
                · have := (Prod.mk.inj hxy).1; omega
                · have := (Prod.mk.inj hxy).1; omega
              have hy : y = 1 ∨ y = -1 := by
                unfold alongE at hxy
                split at hxy
                · exact Or.inl (Prod.mk.inj hxy).2.symm
                · exact Or.inr (Prod.mk.inj hxy).2.symm
              have huk : u < k := hB.mem u (List.mem_of_getElem? hu)
              go_wp2_with fail
              refine (along_is (HW.out.old hs.b) hiE hxy).mono ?_
              rintro e w5 ⟨rfl, hb5⟩
              have hs5 := hs.old hb5
              obtain ⟨fq, fc, rfl⟩ := HF.out.shape
              have hif : i < f.length := by rw [HFL.out]; exact hiE
              obtain ⟨fb, fo, hfq, hfc⟩ := (HF.out.below hs5.b).at hif
              subst hfq
              have hfl := World.block_lt_of_cell? w5 _ hfc
              have hfi : f[i] = fL f i := by simp [fL, hif]
              rw [hfi] at hfc
              obtain ⟨x0, x1, x2, x3, x4, -, -, -, -, -⟩ := (HW.out.old hs5.b).k.o5
              have hpl := (HW.out.old hs5.b).k.lt
              obtain ⟨oc, of, ol⟩ := hs5.offc (v := x) (by rw [hlen]; exact hx)
              have oc2 := (hs5.offc (v := u) (by rw [hlen]; exact huk)).1
              have hyu := hB.yes u (List.mem_of_getElem? hu)
              have hwy : IntKind.i64.wrap (way * y) = way * y := by
                rcases HWAY.out with rfl | rfl <;> rcases hy with rfl | rfl <;> rfl
              have hwo : IntKind.i64.wrap (oL off u + 1) = oL off u + 1 := IntWalk.i64_in _ (by omega)
              have hxi : (x : Int) < (k : Int) := by omega
              have hui : (u : Int) < (k : Int) := by omega
              have hii : (i : Int) < (f.length : Int) := by omega
              have hmem : (i : Int) ∈ atL E u := List.mem_of_getElem? hij2
              by_cases ho : oL off x = -1
              · by_cases hne : fL f i = way * y
                · have HR1 : Hid (Step3 w ob Bs k E f way (setB M) m u (.slice q9 row.length c9) (.int .i64 ((j + 1 : Nat) : Int)) w5) := Lib.hid ⟨j + 1, off, row, by omega, rfl, hml, hu, hB, hL.step hij2 (fun _ h => h) (fun v w' ha hf => by
                    rw [hxy] at ha
                    obtain ⟨rfl, rfl⟩ := Prod.mk.inj ha
                    exact absurd hne hf), hs5⟩
                  have h1 : (oL off x == -1) = true := by simpa using ho
                  have h2 : (fL f i != way * y) = false := by simpa using hne
                  clear hs hs5 hB hL hu hb5 hij hij2 hic hil hmem hne ho hxy hfi
                  go_wp2_with fail
                  go_roundw
                  case rel => exact HR1.out
                  case measure => simp [intOf]; omega
                · have hroom : Room E f way u x := room_along (w := y) ⟨i, hmem, hxy, hne⟩
                  have hB2 := hB.add (List.mem_of_getElem? hu) (by rw [← hlen]; omega) ho hroom (by omega)
                  obtain ⟨q2, c2, w6, hr6, hs6⟩ := (hs5.set x (oL off u + 1)).app x (below_alloc1 _) (Blk.new _ _ _ w5.heap.size (by simp)) (by omega)
                  have HR1 : Hid (Step3 w ob Bs k E f way (setB M) m u (.slice q2 (row.length + 1) c2) (.int .i64 ((j + 1 : Nat) : Int)) w6) := Lib.hid ⟨j + 1, _, row ++ [x], by omega, rfl, by rw [List.length_append]; omega, by rw [List.getElem?_append_left hml]; exact hu, hB2, hL.step hij2 (fun _ h => List.mem_append_left _ h) (fun v w' ha hf => by
                    rw [hxy] at ha
                    obtain ⟨rfl, rfl⟩ := Prod.mk.inj ha
                    simp), hs6⟩
                  have HR6 := Lib.hid hr6
                  have h1 : (oL off x == -1) = true := by simpa using ho
                  have h2 : (fL f i != way * y) = true := by simpa using hne
                  have hob := hs5.lo
                  clear hs hs5 hs6 hr6 hB hB2 hL hu hb5 hij hij2 hic hil hmem hne ho hxy hfi hroom
                  go_wp2_with (at_builtin; refine wpList_append_run (by rfl) _ _ _ rfl _ _ _ rfl rfl HR6.out ?_)
                  go_roundw
                  case rel => exact HR1.out
                  case measure => simp [intOf]; omega
              · have HR1 : Hid (Step3 w ob Bs k E f way (setB M) m u (.slice q9 row.length c9) (.int .i64 ((j + 1 : Nat) : Int)) w5) := Lib.hid ⟨j + 1, off, row, by omega, rfl, hml, hu, hB, hL.step hij2 (fun _ h => h) (fun v w' ha hf => by
                    rw [hxy] at ha
                    obtain ⟨rfl, rfl⟩ := Prod.mk.inj ha
                    exact Classical.byContradiction fun hn => ho (hB.no x hn)), hs5⟩
                have h1 : (oL off x == -1) = false := by simpa using ho
                clear hs hs5 hB hL hu hb5 hij hij2 hic hil hmem ho hxy hfi hfc
                go_wp2_with fail
                go_roundw
                case rel => exact HR1.out
                case measure => simp [intOf]; omega
            · obtain rfl : j = (atL E u).length := by omega
              have HR1 : Hid (Step2 w ob Bs k E f way (setB M) (.slice q9 row.length c9) (.int .i64 ((m + 1 : Nat) : Int)) wr) := Lib.hid ⟨m + 1, off, row, hml, rfl, hB.next hu (hL.all (List.mem_of_getElem? hu)), hs⟩
              clear hs hB hL hu
              go_wp2_with fail
              go_roundw
              case rel => exact HR1.out
              case measure => simp [intOf]; omega
        · obtain rfl : m = row.length := by omega
          have HP : Hid (StepsPost w k E f way (setB M) (.returned (.slice (some ⟨ob, 0, none⟩) k k)) wr) := Lib.hid ⟨ob, off, rfl, hs.o, hs.lo, hB.out HW.out.ein (fun v hv => by have := setB_lt hv; rw [HML.out] at this; exact this), hs.b⟩
          clear hs hB
          go_wp2_with fail
          go_ret
          exact HP.out
end
end Go.Proofs.YtleheaffipokfaaDoor
