/-
  The document's own search in memory.
-/
import Derived.Test.YtleheaffipokfaaDoorFlPc
import Derived.Test.YtleheaffipokfaaDoorFlW
import Derived.RegionTactic
import Derived.BigQuiet
import Derived.IntWalk
namespace Go.Proofs.YtleheaffipokfaaDoor
open Go.ChangeShapes Go.WideShapes Go.RowKit

structure ReaM (w : World) (ob B : Nat) (l : List Int) (qv : Value) (que : List Nat) (wr : World) : Prop where
  o : Blk wr ob (numI l) 3
  q : QueM wr B qv que
  b : Below w.heap.size w wr
  lo : w.heap.size ≤ ob
  ob : ob < B
  sz : B ≤ wr.heap.size
section
variable {w wr wr' : World} {ob B : Nat} {l : List Int} {qv : Value} {que : List Nat}
theorem ReaM.old (h : ReaM w ob B l qv que wr) (hb : Below wr.heap.size wr wr') : ReaM w ob B l qv que wr' :=
  ⟨h.o.keep hb, h.q.old hb, bOn6 h.b hb, h.lo, h.ob, Nat.le_trans h.sz hb.size⟩
theorem ReaM.set (h : ReaM w ob B l qv que wr) (v : Nat) (c : Int) : ReaM w ob B (l.set v c) qv que (wr.setCell ⟨ob, v, none⟩ (.int .i64 c)) := by
  refine ⟨?_, h.q.set h.ob _ _, h.b.setCell h.lo _, h.lo, h.ob, by simpa using h.sz⟩
  have := h.o.set v (.int .i64 c)
  rwa [numI_set] at this
theorem ReaM.offc (h : ReaM w ob B l qv que wr) {v : Nat} (hv : v < l.length) : wr.cell? ⟨ob, v, none⟩ = some (.int .i64 (byL l v)) ∧ wr.frozen? ⟨ob, v, none⟩ = false ∧ ob < wr.heap.size := by
  rw [byL_at hv]
  exact ⟨h.o.cell v (numI_at hv), h.o.free v, h.o.lt⟩
theorem ReaM.app (h : ReaM w ob B l qv que wr) (x : Nat) {g : Nat} (hb : Below wr.heap.size wr wr') (hg : Blk wr' g #[.int .i64 (x : Int)] 3) (hl : que.length ≤ 100000) :
    ∃ q c w', (Builtin.append_ #[23, 23] 23 #[qv, .slice (some ⟨g, 0, none⟩) 1 1]).run Tryd.prog wr' = .ok (.slice q (que.length + 1) c) w' ∧ ReaM w ob B l (.slice q (que.length + 1) c) (que ++ [x]) w' := by
  have h' := h.old hb
  obtain ⟨q, c, w', hr, h1, h2⟩ := h'.q.app hg hl h'.sz
  exact ⟨q, c, w', hr, h'.o.carry h2 h'.ob, h1, h'.b.trans (h2.mono (by have := h.lo; have := h.ob; omega)), h.lo, h.ob, Nat.le_trans h'.sz h2.size⟩
end
theorem I64s.atN {w : World} {q : Option Addr} {n c : Nat} {S : List Nat} (h : I64s w (.slice q n c) (zN S)) {j x : Nat} (hx : S[j]? = some x) : ∃ b o, q = some ⟨b, o, none⟩ ∧ w.cell? ⟨b, o + j, none⟩ = some (.int .i64 (x : Int)) ∧ b < w.heap.size := by
  obtain ⟨hj, hx⟩ := List.getElem?_eq_some_iff.1 hx
  obtain ⟨b, o, e, hc⟩ := h.at (k := j) (by rw [zN_len]; exact hj)
  rw [show (zN S)[j]'(by rw [zN_len]; exact hj) = (x : Int) from by simp [zN, hx]] at hc
  exact ⟨b, o, e, hc, World.block_lt_of_cell? _ _ hc⟩
/-- What a row of numbers in memory reads. -/
def rdL (w : World) (ob N : Nat) : List Int := (List.range N).map fun i => match w.cell? ⟨ob, i, none⟩ with | some (.int .i64 x) => x | _ => 0
theorem rdL_of {w : World} {ob N : Nat} {l : List Int} (h : Blk w ob (numI l) 3) (hl : l.length = N) : rdL w ob N = l := by
  subst hl
  refine List.ext_getElem (by simp [rdL]) fun i h1 h2 => ?_
  simp [rdL, h.cell i (numI_at h2)]
def qLen : Value → Nat
  | .slice _ n _ => n
  | _ => 0
def Fill1 (w : World) (ob N : Nat) (iv : Value) (wr : World) : Prop := ∃ (k : Nat) (l : List Int), k ≤ N ∧ iv = .int .i64 k ∧ l.length = N ∧ (∀ i, i < k → byL l i = -2) ∧ Blk wr ob (numI l) 3 ∧ Below w.heap.size w wr
def From2 (w : World) (ob B N : Nat) (E : Edg) (f : List Int) (S : List Nat) (qv iv : Value) (wr : World) : Prop := ∃ (k : Nat) (l : List Int) (que : List Nat), k ≤ S.length ∧ iv = .int .i64 k ∧ Rea N E f (setB (markL N S)) l que (fun _ => False) ∧ (∀ x, x ∈ S.take k → byL l x ≠ -2) ∧ cntU l + que.length ≤ N ∧ ReaM w ob B l qv que wr
def Out3 (w : World) (ob B N : Nat) (E : Edg) (f : List Int) (S : List Nat) (qv : Value) (wr : World) : Prop := ∃ (l : List Int) (que : List Nat), Rea N E f (setB (markL N S)) l que (fun _ => False) ∧ (∀ x, x ∈ S → byL l x ≠ -2) ∧ cntU l + que.length ≤ N ∧ ReaM w ob B l qv que wr
def In4 (w : World) (ob B N : Nat) (E : Edg) (f : List Int) (S : List Nat) (u T : Nat) (qv iv : Value) (wr : World) : Prop := ∃ (i : Nat) (l : List Int) (que : List Nat), i ≤ E.length ∧ iv = .int .i64 i ∧ Rea N E f (setB (markL N S)) l que (fun x => x = u) ∧ (∀ x, x ∈ S → byL l x ≠ -2) ∧ LookR E f u i l ∧ byL l u ≠ -2 ∧ Rch E f 1 (setB (markL N S)) u ∧ cntU l + que.length = T ∧ ReaM w ob B l qv que wr
def ReachPost (w : World) (N : Nat) (E : Edg) (f : List Int) (S : List Nat) (e : Ending) (w' : World) : Prop := ∃ (ob : Nat) (l : List Int), e = .returned (.slice (some ⟨ob, 0, none⟩) N N) ∧ Blk w' ob (numI l) 3 ∧ w.heap.size ≤ ob ∧ l.length = N ∧ (∀ v, v < N → (byL l v ≠ -2 ↔ Rch E f 1 (setB (markL N S)) v)) ∧ Below w.heap.size w w'
theorem cntU_rep : ∀ N, cntU (List.replicate N (-2)) = N
  | 0 => rfl
  | N + 1 => by
    rw [List.replicate_succ]
    show (if (-2 : Int) = -2 then 1 else 0) + cntU (List.replicate N (-2)) = N + 1
    rw [if_pos rfl, cntU_rep N]
    omega
set_option maxHeartbeats 4000000 in
set_option maxRecDepth 100000 in
theorem reach_is {w : World} {ev fv sv : Value} {N : Nat} {E : Edg} {f : List Int} {S : List Nat} (he : Prs w ev (zE E)) (hf : I64s w fv f) (hs : I64s w sv (zN S)) (hn : N ≤ 4096) (hl : E.length ≤ 16384) (hsl : S.length ≤ 1000000) (hfl : f.length = E.length) (hE : EdgIn N E) (hS : ∀ x, x ∈ S → x < N) :
    Calls Tryd.prog 35 #[.int .i64 N, ev, fv, sv] w (ReachPost w N E f S) := by
  obtain ⟨eq0, ec0, rfl⟩ := he.shape
  obtain ⟨fq0, fc0, rfl⟩ := hf.shape
  obtain ⟨sq0, sc0, rfl⟩ := hs.shape
  rw [zE_len] at he
  rw [zN_len] at hs
  rw [hfl] at hf
  rw [zE_len, zN_len, hfl]
  have HE := Lib.hid he
  have HF := Lib.hid hf
  have HS := Lib.hid hs
  have HFL := Lib.hid hfl
  have HEI := Lib.hid hE
  have HSN := Lib.hid hS
  have HN : Hid (N ≤ 4096 ∧ E.length ≤ 16384 ∧ S.length ≤ 1000000) := Lib.hid ⟨hn, hl, hsl⟩
  have hmk := RI.make1 w 23 3 (.int .i64 0) 8 rfl Tryd.underlying23 infoInt N (by omega) (by decide)
  obtain ⟨w1, hw1⟩ := named (w.alloc (.cells (List.replicate N (.int .i64 0)).toArray 3))
  obtain ⟨ob, hob⟩ : ∃ ob, w.heap.size = ob := ⟨_, rfl⟩
  have HB1 : Hid (Below w.heap.size w w1) := Lib.hid (by rw [hw1]; exact below_alloc1 _)
  have HK1 : Hid (Blk w1 ob (numI (List.replicate N 0)) 3) := Lib.hid (by rw [hw1, numI_rep]; exact Blk.new _ _ _ _ hob)
  have HOB : Hid (w.heap.size = ob) := Lib.hid hob
  rw [← hw1] at hmk
  rw [hob] at hmk
  clear he hf hs hfl hE hS hw1
  go_enter Tryd.func35, Tryd.ntmps35
  go_wp2_with fail
  clear hmk hob
  go_loopw [10] (fun iv wr => Fill1 w ob N iv wr) (fun iv _ => N - (intOf iv).toNat)
  case atStart => exact ⟨0, List.replicate N 0, Nat.zero_le _, rfl, by simp, fun i h => by omega, HK1.out, HB1.out⟩
  case round =>
    clear HK1 HB1
    obtain ⟨k, l, hk, rfl, hll, hlk, hkb, hb⟩ := hrel
    by_cases hlt : k < N
    · have hki : (k : Int) < (N : Int) := by omega
      obtain ⟨u0, xc⟩ : ∃ u0, wr.cell? ⟨ob, k, none⟩ = some u0 := ⟨_, hkb.cell k (numI_at (l := l) (by omega))⟩
      have xf := hkb.free k
      have xl := hkb.lt
      have hk2 := hkb.set k (.int .i64 (-2))
      rw [numI_set] at hk2
      have HR : Hid (Blk (wr.setCell ⟨ob, k, none⟩ (.int .i64 (-2))) ob (numI (l.set k (-2))) 3 ∧ Below w.heap.size w (wr.setCell ⟨ob, k, none⟩ (.int .i64 (-2)))) := Lib.hid ⟨hk2, hb.setCell (Nat.le_of_eq HOB.out) _⟩
      have HL : Hid (l.length = N) := Lib.hid hll
      have HLK : Hid (∀ i, i < k + 1 → byL (l.set k (-2)) i = -2) := Lib.hid fun i hi => by
        rw [byL_set (by omega)]
        split
        · rfl
        · exact hlk i (by omega)
      have hn9 := HN.out.1
      clear hk2 hkb hb hll hlk
      go_wp2_with fail
      go_roundw
      case rel => exact ⟨k + 1, l.set k (-2), hlt, by go_num, by rw [List.length_set]; exact HL.out, HLK.out, HR.out.1, HR.out.2⟩
      case measure => simp [intOf]; omega
    · obtain rfl : k = N := by omega
      obtain rfl : l = List.replicate k (-2) := List.ext_getElem (by simpa using hll) fun i h1 h2 => by
        rw [← byL_at h1, hlk i (by simpa using h2)]
        simp
      have HM : Hid (ReaM w ob wr.heap.size (List.replicate k (-2)) (.slice none 0 0) [] wr) := Lib.hid ⟨hkb, QueM.nil _ _, hb, Nat.le_of_eq HOB.out, hkb.lt, Nat.le_refl _⟩
      obtain ⟨B, hB⟩ : ∃ B, wr.heap.size = B := ⟨_, rfl⟩
      rw [hB] at HM
      clear hB hkb hb hll hlk hlt hk
      go_wp2_with fail
      go_loopw [11, 12] (fun qv iv wr => From2 w ob B k E f S qv iv wr) (fun _ iv _ => S.length - (intOf iv).toNat)
      case atStart => exact ⟨0, _, [], Nat.zero_le _, rfl, Rea.start k E f _ _, fun x h => by simp at h, by rw [cntU_rep]; simp, HM.out⟩
      case round =>
        clear HM
        obtain ⟨j, l, que, hj, rfl, hrea, hsl, hcn, hm⟩ := hrel
        have HRE := Lib.hid hrea
        have HSL := Lib.hid hsl
        have HCN := Lib.hid hcn
        have HM := Lib.hid hm
        clear hrea hsl hcn hm
        by_cases hlt : j < S.length
        · have hji : (j : Int) < (S.length : Int) := by omega
          have hn9 := HN.out.2.2
          obtain ⟨x, hx⟩ : ∃ x, S[j]? = some x := ⟨_, List.getElem?_eq_getElem hlt⟩
          obtain ⟨sb, so, rfl, sc, hsb⟩ := (HS.out.below HM.out.b).atN hx
          have HX := Lib.hid hx
          have HXS : Hid (x ∈ S) := Lib.hid (List.mem_of_getElem? hx)
          have hxk : x < k := HSN.out x HXS.out
          have hxi : (x : Int) < (k : Int) := by omega
          have HTK : Hid (S.take (j + 1) = S.take j ++ [x]) := Lib.hid (by rw [List.take_add_one, hx]; rfl)
          obtain ⟨oc, of, ol⟩ := HM.out.offc (v := x) (by rw [HRE.out.len]; exact hxk)
          clear hx
          by_cases hu : byL l x = -2
          · have hwx : IntKind.i64.wrap (x : Int) = x := IntWalk.i64_in _ (by have := HN.out.1; omega)
            have HRE2 : Hid (Rea k E f (setB (markL k S)) (l.set x (-1)) (que ++ [x]) (fun _ => False)) := Lib.hid (HRE.out.add hxk hu (by decide) (.start (by rw [markL_in hxk]; simpa using HXS.out)))
            have HCN2 : Hid (cntU (l.set x (-1)) + (que ++ [x]).length ≤ k) := Lib.hid (by
              have := cntU_set (l := l) (c := -1) (by rw [HRE.out.len]; exact hxk) hu (by decide)
              have := HCN.out
              rw [List.length_append, List.length_singleton]
              omega)
            have HSL2 : Hid (∀ y, y ∈ S.take (j + 1) → byL (l.set x (-1)) y ≠ -2) := Lib.hid fun y hy => by
              rw [byL_set (by rw [HRE.out.len]; exact hxk)]
              split
              · decide
              · next hne =>
                rw [HTK.out] at hy
                rcases List.mem_append.1 hy with hy | hy
                · exact HSL.out y hy
                · simp at hy
                  exact absurd hy hne
            have hset := HM.out.set x (-1)
            have hqv := hset.q.shape
            obtain ⟨w8, hw8⟩ := named (wr.setCell ⟨ob, x, none⟩ (.int .i64 (-1)))
            rw [← hw8] at hset
            obtain ⟨sb', so', e, sc8, hsb8⟩ := (HS.out.below hset.b).atN HX.out
            injection e with e
            injection e with e1 e2
            subst e1 e2
            obtain ⟨y8, hy8⟩ := named (w8.alloc (.cells #[.int .i64 (x : Int)] 3))
            have hby : Below w8.heap.size w8 y8 := by rw [hy8]; exact below_alloc1 _
            obtain ⟨gy, hgy⟩ : ∃ g, w8.heap.size = g := ⟨_, rfl⟩
            have ky : Blk y8 gy #[.int .i64 (x : Int)] 3 := by rw [hy8]; exact Blk.new _ _ _ _ hgy
            obtain ⟨q9, c9, w9, hr9, hm9⟩ := hset.app x hby ky (by have := HCN.out; have := HN.out.1; omega)
            have HR9 := Lib.hid hr9
            have HM9 := Lib.hid hm9
            have e8 := hy8.symm
            have e7 := hw8.symm
            have du : (byL l x == -2) = true := by simpa using hu
            clear hby ky hr9 hm9 hy8 hw8 hset hqv hu
            go_wp2_with (at_builtin; refine wpList_append_run (by rfl) _ _ _ rfl _ _ _ rfl rfl HR9.out ?_)
            clear e7 e8 hgy
            go_roundw
            case rel => exact ⟨j + 1, l.set x (-1), que ++ [x], hlt, by go_num, HRE2.out, HSL2.out, HCN2.out, HM9.out⟩
            case measure => simp [intOf]; omega
          · have du : (byL l x == -2) = false := by simpa using hu
            have HSL2 : Hid (∀ y, y ∈ S.take (j + 1) → byL l y ≠ -2) := Lib.hid fun y hy => by
              rw [HTK.out] at hy
              rcases List.mem_append.1 hy with hy | hy
              · exact HSL.out y hy
              · simp at hy
                rw [hy]
                exact hu
            clear hu
            go_wp2_with fail
            go_roundw
            case rel => exact ⟨j + 1, l, que, hlt, by go_num, HRE.out, HSL2.out, HCN.out, HM.out⟩
            case measure => simp [intOf]; omega
        · obtain rfl : j = S.length := by omega
          have HSA : Hid (∀ x, x ∈ S → byL l x ≠ -2) := Lib.hid (by have := HSL.out; rwa [List.take_length] at this)
          clear HSL hlt hj
          go_wp2_with fail
          go_loopw [11, 13, 14, 15, 16] (fun qv _ _ _ _ wr => Out3 w ob B k E f S qv wr) (fun qv _ _ _ _ wr => cntU (rdL wr ob k) + qLen qv)
          case atStart => exact ⟨l, que, HRE.out, HSA.out, HCN.out, HM.out⟩
          case round =>
            clear HRE HSA HCN HM
            clear l que
            obtain ⟨l, que, hrea, hsl, hcn, hm⟩ := hrel
            have HRE := Lib.hid hrea
            have HSA := Lib.hid hsl
            have HCN := Lib.hid hcn
            have HRD : Hid (rdL wr ob k = l) := Lib.hid (rdL_of hm.o hrea.len)
            clear hrea hsl hcn
            cases que with
            | nil =>
              obtain ⟨q, c, rfl⟩ := hm.q.shape
              have HP : Hid (ReachPost w k E f S (.returned (.slice (some ⟨ob, 0, none⟩) k k)) wr) := Lib.hid ⟨ob, l, rfl, hm.o, hm.lo, HRE.out.len, HRE.out.out HEI.out (fun v hv => by
                have hvN : v < k := by have := setB_lt hv; rwa [markL_len] at this
                rw [markL_in hvN] at hv
                exact ⟨hvN, HSA.out v (by simpa using hv)⟩), hm.b⟩
              rw [List.length_nil]
              clear hm
              go_wp2_with fail
              go_ret
              exact HP.out
            | cons u que =>
              obtain ⟨gq, oq, cq, rfl, qc, ql, qcm, qlc, hq2, hq3⟩ := hm.q.cell
              have HQ := Lib.hid HRE.out.pop
              have hlen : que.length ≤ 4096 := by have := HCN.out; have := HN.out.1; rw [List.length_cons] at *; omega
              have hq1 : ((0 : Int) < (que.length : Int) + 1) := by omega
              have HCE : Hid (cntU l + (que.length + 1) ≤ k) := Lib.hid (by have := HCN.out; rwa [List.length_cons] at this)
              clear HCN HRE
              rcases Nat.eq_zero_or_pos cq with rfl | hcp
              · obtain rfl : que = [] := List.length_eq_zero_iff.1 (by omega)
                have HM2 : Hid (ReaM w ob B l (.slice (some ⟨gq, oq, none⟩) 0 0) [] wr) := Lib.hid ⟨hm.o, hq3 rfl, hm.b, hm.lo, hm.ob, hm.sz⟩
                simp only [List.length_nil, Nat.zero_add]
                rw [List.length_nil] at qlc hlen hq1 HCE
                rw [Nat.zero_add] at HCE
                clear hm hq2 hq3
                go_wp2_with fail
                clear qc ql qcm qlc hlen hq1
                obtain ⟨T, hT⟩ : ∃ T, cntU l = T := ⟨_, rfl⟩
                have HT := Lib.hid hT
                go_loopw [11, 14, 15, 16] (fun qv iv _ _ wr => In4 w ob B k E f S u T qv iv wr) (fun _ iv _ _ _ => E.length - (intOf iv).toNat)
                case atStart => exact ⟨0, l, ([] : List Nat), Nat.zero_le _, rfl, HQ.out.1, HSA.out, LookR.zero, HQ.out.2.2.1, HQ.out.2.2.2, HT.out, HM2.out⟩
                case round =>
                  clear hT HM2 HSA
                  obtain ⟨i, l2, que2, hi, rfl, hrea, hsl, hlk, hu2, hru, hcT, hm⟩ := hrel
                  have HRE := Lib.hid hrea
                  have HSA := Lib.hid hsl
                  have HLK := Lib.hid hlk
                  have HU2 := Lib.hid hu2
                  have HRU := Lib.hid hru
                  have HCT := Lib.hid hcT
                  have HM := Lib.hid hm
                  clear hrea hsl hlk hu2 hru hcT hm
                  by_cases hlt : i < E.length
                  · have hii : (i : Int) < (E.length : Int) := by omega
                    have hne9 := HN.out.2.1
                    obtain ⟨⟨a, c⟩, hac⟩ : ∃ e, eL E i = e := ⟨_, rfl⟩
                    obtain ⟨eb, eo, rfl, z0, z1⟩ := (HE.out.below HM.out.b).at (k := i) (by rw [zE_len]; exact hlt)
                    rw [zE_at, hac] at z0 z1
                    simp only at z0 z1
                    obtain ⟨fb, fo, rfl, zf⟩ := (HF.out.below HM.out.b).at (k := i) (by rw [HFL.out]; exact hlt)
                    obtain ⟨x, hx⟩ : ∃ x, fL f i = x := ⟨_, rfl⟩
                    rw [show f[i]'(by rw [HFL.out]; exact hlt) = x from by rw [← hx]; simp [fL, HFL.out, hlt]] at zf
                    have hel := World.block_lt_of_cell? _ _ z0
                    have hfb := World.block_lt_of_cell? _ _ zf
                    have Z0 := Lib.hid z0
                    have Z1 := Lib.hid z1
                    have ZF := Lib.hid zf
                    obtain ⟨⟨r, bb⟩, hrz⟩ : ∃ p, roomZ a c x u = p := ⟨_, rfl⟩
                    have HRZ := Lib.hid hrz
                    have HX := Lib.hid hx
                    have HAC := Lib.hid hac
                    have DS0 : Hid (GG.BelS wr (fun _ => false) () wr.drew) := Lib.hid ⟨(Below.refl _ _).drew⟩
                    clear z0 z1 zf hrz hx hac hel hfb
                    go_wp2_with fail
                    refine' GG.wp_growL _ (GG.BelS wr) [[], [], [0, 1], [0, 1, 2], [], [], [4, 5], [4, 5, 6], [], [0, 1, 2, 3, 4, 5, 6, 7, 8], [0, 1, 2, 3, 4, 5, 6, 7, 8, 9], [0, 1, 2, 3, 4, 5, 6, 7, 8, 9, 10], [0, 1, 2, 3, 4, 5, 6, 7, 8, 9, 10], [0, 1, 2, 3, 4, 5, 6, 7, 8, 9, 10, 11], [0, 1, 2, 3, 4, 5, 6, 7, 8, 9, 10, 11, 12, 13]] (GG.Fact.lit (Rl := GG.RlB) _ :: GG.Fact.lit (Rl := GG.RlB) _ :: GG.Fact.lit (Rl := GG.RlB) _ :: GG.Fact.lit (Rl := GG.RlB) _ :: GG.Fact.lit (Rl := GG.RlB) _ :: GG.Fact.lit (Rl := GG.RlB) _ :: GG.Fact.lit (Rl := GG.RlB) _ :: GG.Fact.lit (Rl := GG.RlB) _ :: GG.Fact.lit (Rl := GG.RlB) _ :: GG.Fact.lit (Rl := GG.RlB) _ :: GG.Fact.lit (Rl := GG.RlB) _ :: GG.Fact.lit (Rl := GG.RlB) _ :: GG.Fact.lit (Rl := GG.RlB) _ :: GG.Fact.lit (Rl := GG.RlB) _ :: GG.Fact.lit (Rl := GG.RlB) _ :: []) (by kernel_rfl) rfl (by kernel_rfl) (()) (DS0.out) ?seqre
                    case' seqre => skip
                    (refine' GG.grow_lit (GG.BelS.still) rfl ?wtre0 ?runre0 ?putre0 ?nextre0; (case wtre0 => rfl); (case runre0 => (intro w' hS; (obtain ⟨dn, s, hS⟩ := hS); (have z0 := keep hS.b Z0.out); (have z1 := keep hS.b Z1.out); (have zf := keep hS.b ZF.out); (have hl0 := World.block_lt_of_cell? w' _ z0); (have hl1 := World.block_lt_of_cell? w' _ zf); clear hS; go_simp; first | done | exact rfl)); (case putre0 => (first | (simp only [Act.put, List.setIfInBounds_toArray, List.set_cons_zero, List.set_cons_succ]; first | done | exact rfl) | rfl)); (case' nextre0 => skip))
                    (refine' GG.grow_lit (GG.BelS.still) rfl ?wtre1 ?runre1 ?putre1 ?nextre1; (case wtre1 => rfl); (case runre1 => (intro w' hS; (obtain ⟨dn, s, hS⟩ := hS); (have z0 := keep hS.b Z0.out); (have z1 := keep hS.b Z1.out); (have zf := keep hS.b ZF.out); (have hl0 := World.block_lt_of_cell? w' _ z0); (have hl1 := World.block_lt_of_cell? w' _ zf); clear hS; go_simp; first | done | exact rfl)); (case putre1 => (first | (simp only [Act.put, List.setIfInBounds_toArray, List.set_cons_zero, List.set_cons_succ]; first | done | exact rfl) | rfl)); (case' nextre1 => skip))
                    (refine' GG.grow_lit (GG.BelS.still) rfl ?wtre2 ?runre2 ?putre2 ?nextre2; (case wtre2 => rfl); (case runre2 => (intro w' hS; (obtain ⟨dn, s, hS⟩ := hS); (have z0 := keep hS.b Z0.out); (have z1 := keep hS.b Z1.out); (have zf := keep hS.b ZF.out); (have hl0 := World.block_lt_of_cell? w' _ z0); (have hl1 := World.block_lt_of_cell? w' _ zf); clear hS; go_simp; first | done | exact rfl)); (case putre2 => (first | (simp only [Act.put, List.setIfInBounds_toArray, List.set_cons_zero, List.set_cons_succ]; first | done | exact rfl) | rfl)); (case' nextre2 => skip))
                    (refine' GG.grow_lit (GG.BelS.still) rfl ?wtre3 ?runre3 ?putre3 ?nextre3; (case wtre3 => rfl); (case runre3 => (intro w' hS; (obtain ⟨dn, s, hS⟩ := hS); (have z0 := keep hS.b Z0.out); (have z1 := keep hS.b Z1.out); (have zf := keep hS.b ZF.out); (have hl0 := World.block_lt_of_cell? w' _ z0); (have hl1 := World.block_lt_of_cell? w' _ zf); clear hS; go_simp; first | done | exact rfl)); (case putre3 => (first | (simp only [Act.put, List.setIfInBounds_toArray, List.set_cons_zero, List.set_cons_succ]; first | done | exact rfl) | rfl)); (case' nextre3 => skip))
                    (refine' GG.grow_lit (GG.BelS.still) rfl ?wtre4 ?runre4 ?putre4 ?nextre4; (case wtre4 => rfl); (case runre4 => (intro w' hS; (obtain ⟨dn, s, hS⟩ := hS); (have z0 := keep hS.b Z0.out); (have z1 := keep hS.b Z1.out); (have zf := keep hS.b ZF.out); (have hl0 := World.block_lt_of_cell? w' _ z0); (have hl1 := World.block_lt_of_cell? w' _ zf); clear hS; go_simp; first | done | exact rfl)); (case putre4 => (first | (simp only [Act.put, List.setIfInBounds_toArray, List.set_cons_zero, List.set_cons_succ]; first | done | exact rfl) | rfl)); (case' nextre4 => skip))
                    (refine' GG.grow_lit (GG.BelS.still) rfl ?wtre5 ?runre5 ?putre5 ?nextre5; (case wtre5 => rfl); (case runre5 => (intro w' hS; (obtain ⟨dn, s, hS⟩ := hS); (have z0 := keep hS.b Z0.out); (have z1 := keep hS.b Z1.out); (have zf := keep hS.b ZF.out); (have hl0 := World.block_lt_of_cell? w' _ z0); (have hl1 := World.block_lt_of_cell? w' _ zf); clear hS; go_simp; first | done | exact rfl)); (case putre5 => (first | (simp only [Act.put, List.setIfInBounds_toArray, List.set_cons_zero, List.set_cons_succ]; first | done | exact rfl) | rfl)); (case' nextre5 => skip))
                    (refine' GG.grow_lit (GG.BelS.still) rfl ?wtre6 ?runre6 ?putre6 ?nextre6; (case wtre6 => rfl); (case runre6 => (intro w' hS; (obtain ⟨dn, s, hS⟩ := hS); (have z0 := keep hS.b Z0.out); (have z1 := keep hS.b Z1.out); (have zf := keep hS.b ZF.out); (have hl0 := World.block_lt_of_cell? w' _ z0); (have hl1 := World.block_lt_of_cell? w' _ zf); clear hS; go_simp; first | done | exact rfl)); (case putre6 => (first | (simp only [Act.put, List.setIfInBounds_toArray, List.set_cons_zero, List.set_cons_succ]; first | done | exact rfl) | rfl)); (case' nextre6 => skip))
                    (refine' GG.grow_lit (GG.BelS.still) rfl ?wtre7 ?runre7 ?putre7 ?nextre7; (case wtre7 => rfl); (case runre7 => (intro w' hS; (obtain ⟨dn, s, hS⟩ := hS); (have z0 := keep hS.b Z0.out); (have z1 := keep hS.b Z1.out); (have zf := keep hS.b ZF.out); (have hl0 := World.block_lt_of_cell? w' _ z0); (have hl1 := World.block_lt_of_cell? w' _ zf); clear hS; go_simp; first | done | exact rfl)); (case putre7 => (first | (simp only [Act.put, List.setIfInBounds_toArray, List.set_cons_zero, List.set_cons_succ]; first | done | exact rfl) | rfl)); (case' nextre7 => skip))
                    (refine' GG.grow_lit (GG.BelS.still) rfl ?wtre8 ?runre8 ?putre8 ?nextre8; (case wtre8 => rfl); (case runre8 => (intro w' hS; (obtain ⟨dn, s, hS⟩ := hS); (have z0 := keep hS.b Z0.out); (have z1 := keep hS.b Z1.out); (have zf := keep hS.b ZF.out); (have hl0 := World.block_lt_of_cell? w' _ z0); (have hl1 := World.block_lt_of_cell? w' _ zf); clear hS; go_simp; first | done | exact rfl)); (case putre8 => (first | (simp only [Act.put, List.setIfInBounds_toArray, List.set_cons_zero, List.set_cons_succ]; first | done | exact rfl) | rfl)); (case' nextre8 => skip))
                    (refine' GG.grow_lit_call (u := .tuple #[.int .i64 r, .bool bb]) rfl Tryd.func45 (by kernel_rfl) rfl rfl ?wtre9 ?runre9 ?putre9 ?nextre9; (case wtre9 => rfl); (case runre9 => (intro dn s w' hS hd H; exact (room_is w' a c x u HRZ.out).mono (fun e w2 h => ⟨(), h.1, ⟨hS.b.trans (h.2.mono hS.b.size)⟩, h.2, h.2.size⟩))); (case putre9 => (first | (simp only [Act.put, List.setIfInBounds_toArray, List.set_cons_zero, List.set_cons_succ]; first | done | exact rfl) | rfl)); (case' nextre9 => skip))
                    (refine' GG.grow_lit (GG.BelS.still) rfl ?wtre10 ?runre10 ?putre10 ?nextre10; (case wtre10 => rfl); (case runre10 => (intro w' hS; (obtain ⟨dn, s, hS⟩ := hS); (have z0 := keep hS.b Z0.out); (have z1 := keep hS.b Z1.out); (have zf := keep hS.b ZF.out); (have hl0 := World.block_lt_of_cell? w' _ z0); (have hl1 := World.block_lt_of_cell? w' _ zf); clear hS; go_simp; first | done | exact rfl)); (case putre10 => (first | (simp only [Act.put, List.setIfInBounds_toArray, List.set_cons_zero, List.set_cons_succ]; first | done | exact rfl) | rfl)); (case' nextre10 => skip))
                    (refine' GG.grow_lit (GG.BelS.still) rfl ?wtre11 ?runre11 ?putre11 ?nextre11; (case wtre11 => rfl); (case runre11 => (intro w' hS; (obtain ⟨dn, s, hS⟩ := hS); (have z0 := keep hS.b Z0.out); (have z1 := keep hS.b Z1.out); (have zf := keep hS.b ZF.out); (have hl0 := World.block_lt_of_cell? w' _ z0); (have hl1 := World.block_lt_of_cell? w' _ zf); clear hS; go_simp; first | done | exact rfl)); (case putre11 => (first | (simp only [Act.put, List.setIfInBounds_toArray, List.set_cons_zero, List.set_cons_succ]; first | done | exact rfl) | rfl)); (case' nextre11 => skip))
                    (refine' GG.grow_lit (GG.BelS.still) rfl ?wtre12 ?runre12 ?putre12 ?nextre12; (case wtre12 => rfl); (case runre12 => (intro w' hS; (obtain ⟨dn, s, hS⟩ := hS); (have z0 := keep hS.b Z0.out); (have z1 := keep hS.b Z1.out); (have zf := keep hS.b ZF.out); (have hl0 := World.block_lt_of_cell? w' _ z0); (have hl1 := World.block_lt_of_cell? w' _ zf); clear hS; go_simp; first | done | exact rfl)); (case putre12 => (first | (simp only [Act.put, List.setIfInBounds_toArray, List.set_cons_zero, List.set_cons_succ]; first | done | exact rfl) | rfl)); (case' nextre12 => skip))
                    (refine' GG.grow_lit (GG.BelS.still) rfl ?wtre13 ?runre13 ?putre13 ?nextre13; (case wtre13 => rfl); (case runre13 => (intro w' hS; (obtain ⟨dn, s, hS⟩ := hS); (have z0 := keep hS.b Z0.out); (have z1 := keep hS.b Z1.out); (have zf := keep hS.b ZF.out); (have hl0 := World.block_lt_of_cell? w' _ z0); (have hl1 := World.block_lt_of_cell? w' _ zf); clear hS; go_simp; first | done | exact rfl)); (case putre13 => (first | (simp only [Act.put, List.setIfInBounds_toArray, List.set_cons_zero, List.set_cons_succ]; first | done | exact rfl) | rfl)); (case' nextre13 => skip))
                    (refine' GG.grow_lit (GG.BelS.still) rfl ?wtre14 ?runre14 ?putre14 ?nextre14; (case wtre14 => rfl); (case runre14 => (intro w' hS; (obtain ⟨dn, s, hS⟩ := hS); (have z0 := keep hS.b Z0.out); (have z1 := keep hS.b Z1.out); (have zf := keep hS.b ZF.out); (have hl0 := World.block_lt_of_cell? w' _ z0); (have hl1 := World.block_lt_of_cell? w' _ zf); clear hS; go_simp; first | done | exact rfl)); (case putre14 => (first | (simp only [Act.put, List.setIfInBounds_toArray, List.set_cons_zero, List.set_cons_succ]; first | done | exact rfl) | rfl)); (case' nextre14 => skip))
                    intro dn s w7 hS _ _
                    have HM7 := Lib.hid (HM.out.old hS.b)
                    clear hS DS0
                    cases bb with
                    | false =>
                      have HLK2 := Lib.hid (HLK.out.no HAC.out HU2.out (fun r' h' => by rw [HX.out, HRZ.out] at h'; simp at h'))
                      go_wp2_with fail
                      go_roundw
                      case rel => exact ⟨i + 1, l2, que2, hlt, by go_num, HRE.out, HSA.out, HLK2.out, HU2.out, HRU.out, HCT.out, HM7.out⟩
                      case measure => simp [intOf]; omega
                    | true =>
                      obtain ⟨v, rfl, hroom⟩ := room_to HAC.out hlt (by rw [HX.out]; exact HRZ.out)
                      have hvk : v < k := by
                        obtain ⟨i', hi', h'⟩ := hroom
                        have := HEI.out i' hi'
                        rcases h' with ⟨e', -⟩ | ⟨e', -⟩ <;> rw [e'] at this
                        · exact this.2
                        · exact this.1
                      have HROOM := Lib.hid hroom
                      clear hroom
                      have hvi : (v : Int) < (k : Int) := by omega
                      obtain ⟨oc, of, ol⟩ := HM7.out.offc (v := v) (by rw [HRE.out.len]; exact hvk)
                      by_cases hv : byL l2 v = -2
                      · have HRE2 : Hid (Rea k E f (setB (markL k S)) (l2.set v (i : Int)) (que2 ++ [v]) (fun x => x = u)) := Lib.hid (HRE.out.add hvk hv (by omega) (.step HRU.out HROOM.out))
                        have HVL : Hid (v < l2.length) := Lib.hid (by rw [HRE.out.len]; exact hvk)
                        have HUP : Hid (∀ y, byL l2 y ≠ -2 → byL (l2.set v (i : Int)) y ≠ -2) := Lib.hid fun y hy => by
                          rw [byL_set HVL.out]
                          split
                          · omega
                          · exact hy
                        have HSA2 : Hid (∀ y, y ∈ S → byL (l2.set v (i : Int)) y ≠ -2) := Lib.hid fun y hy => HUP.out y (HSA.out y hy)
                        have HU3 := Lib.hid (HUP.out u HU2.out)
                        have HLK2 := Lib.hid ((HLK.out.set HVL.out (show (i : Int) ≠ -2 by omega)).no HAC.out HU3.out (fun r' h' => by
                          rw [HX.out, HRZ.out] at h'
                          have : v = r' := by
                            have := congrArg Prod.fst h'
                            simp only at this
                            omega
                          rw [← this, byL_set HVL.out, if_pos rfl]
                          omega))
                        have HCT2 : Hid (cntU (l2.set v (i : Int)) + (que2 ++ [v]).length = T) := Lib.hid (by
                          have := cntU_set (l := l2) (c := (i : Int)) HVL.out hv (by omega)
                          have := HCT.out
                          rw [List.length_append, List.length_singleton]
                          omega)
                        have hset := HM7.out.set v (i : Int)
                        obtain ⟨w8, hw8⟩ := named (w7.setCell ⟨ob, v, none⟩ (.int .i64 (i : Int)))
                        rw [← hw8] at hset
                        obtain ⟨y8, hy8⟩ := named (w8.alloc (.cells #[.int .i64 (v : Int)] 3))
                        have hby : Below w8.heap.size w8 y8 := by rw [hy8]; exact below_alloc1 _
                        obtain ⟨gy, hgy⟩ : ∃ g, w8.heap.size = g := ⟨_, rfl⟩
                        have ky : Blk y8 gy #[.int .i64 (v : Int)] 3 := by rw [hy8]; exact Blk.new _ _ _ _ hgy
                        obtain ⟨q9, c9, w9, hr9, hm9⟩ := hset.app v hby ky (by have := HCT.out; have := HT.out; have := HCE.out; have := HN.out.1; omega)
                        have HR9 := Lib.hid hr9
                        have HM9 := Lib.hid hm9
                        have e8 := hy8.symm
                        have e7 := hw8.symm
                        have du : (byL l2 v == -2) = true := by simpa using hv
                        clear hby ky hr9 hm9 hy8 hw8 hset hv
                        go_wp2_with (at_builtin; refine wpList_append_run (by rfl) _ _ _ rfl _ _ _ rfl rfl HR9.out ?_)
                        clear e7 e8 hgy
                        go_roundw
                        case rel => exact ⟨i + 1, l2.set v (i : Int), que2 ++ [v], hlt, by go_num, HRE2.out, HSA2.out, HLK2.out, HU3.out, HRU.out, HCT2.out, HM9.out⟩
                        case measure => simp [intOf]; omega
                      · have du : (byL l2 v == -2) = false := by simpa using hv
                        have HLK2 := Lib.hid (HLK.out.no HAC.out HU2.out (fun r' h' => by
                          rw [HX.out, HRZ.out] at h'
                          have : v = r' := by
                            have := congrArg Prod.fst h'
                            simp only at this
                            omega
                          rw [← this]
                          exact hv))
                        clear hv
                        go_wp2_with fail
                        go_roundw
                        case rel => exact ⟨i + 1, l2, que2, hlt, by go_num, HRE.out, HSA.out, HLK2.out, HU2.out, HRU.out, HCT.out, HM7.out⟩
                        case measure => simp [intOf]; omega
                  · obtain rfl : i = E.length := by omega
                    have HRE3 := Lib.hid (HRE.out.close HLK.out.all)
                    have HRD2 := Lib.hid (rdL_of HM.out.o HRE.out.len)
                    obtain ⟨q7, c7, rfl⟩ := HM.out.q.shape
                    clear hlt hi
                    go_wp2_with fail
                    go_roundw
                    case rel => exact ⟨l2, que2, HRE3.out, HSA.out, by have := HCT.out; have := HT.out; have := HCE.out; omega, HM.out⟩
                    case measure =>
                      rw [HRD.out, HRD2.out]
                      have := HCT.out
                      have := HT.out
                      simp only [qLen]
                      omega
              · have HM2 : Hid (ReaM w ob B l (.slice (some ⟨gq, oq + 1, none⟩) que.length cq) que wr) := Lib.hid ⟨hm.o, hq2, hm.b, hm.lo, hm.ob, hm.sz⟩
                have hcq : ¬ cq = 0 := by omega
                clear hm hq2 hq3
                go_wp2_with fail
                clear qc ql qcm qlc hlen hq1
                obtain ⟨T, hT⟩ : ∃ T, cntU l + que.length = T := ⟨_, rfl⟩
                have HT := Lib.hid hT
                go_loopw [11, 14, 15, 16] (fun qv iv _ _ wr => In4 w ob B k E f S u T qv iv wr) (fun _ iv _ _ _ => E.length - (intOf iv).toNat)
                case atStart => exact ⟨0, l, que, Nat.zero_le _, rfl, HQ.out.1, HSA.out, LookR.zero, HQ.out.2.2.1, HQ.out.2.2.2, HT.out, HM2.out⟩
                case round =>
                  clear hT HM2 HSA
                  obtain ⟨i, l2, que2, hi, rfl, hrea, hsl, hlk, hu2, hru, hcT, hm⟩ := hrel
                  have HRE := Lib.hid hrea
                  have HSA := Lib.hid hsl
                  have HLK := Lib.hid hlk
                  have HU2 := Lib.hid hu2
                  have HRU := Lib.hid hru
                  have HCT := Lib.hid hcT
                  have HM := Lib.hid hm
                  clear hrea hsl hlk hu2 hru hcT hm
                  by_cases hlt : i < E.length
                  · have hii : (i : Int) < (E.length : Int) := by omega
                    have hne9 := HN.out.2.1
                    obtain ⟨⟨a, c⟩, hac⟩ : ∃ e, eL E i = e := ⟨_, rfl⟩
                    obtain ⟨eb, eo, rfl, z0, z1⟩ := (HE.out.below HM.out.b).at (k := i) (by rw [zE_len]; exact hlt)
                    rw [zE_at, hac] at z0 z1
                    simp only at z0 z1
                    obtain ⟨fb, fo, rfl, zf⟩ := (HF.out.below HM.out.b).at (k := i) (by rw [HFL.out]; exact hlt)
                    obtain ⟨x, hx⟩ : ∃ x, fL f i = x := ⟨_, rfl⟩
                    rw [show f[i]'(by rw [HFL.out]; exact hlt) = x from by rw [← hx]; simp [fL, HFL.out, hlt]] at zf
                    have hel := World.block_lt_of_cell? _ _ z0
                    have hfb := World.block_lt_of_cell? _ _ zf
                    have Z0 := Lib.hid z0
                    have Z1 := Lib.hid z1
                    have ZF := Lib.hid zf
                    obtain ⟨⟨r, bb⟩, hrz⟩ : ∃ p, roomZ a c x u = p := ⟨_, rfl⟩
                    have HRZ := Lib.hid hrz
                    have HX := Lib.hid hx
                    have HAC := Lib.hid hac
                    have DS0 : Hid (GG.BelS wr (fun _ => false) () wr.drew) := Lib.hid ⟨(Below.refl _ _).drew⟩
                    clear z0 z1 zf hrz hx hac hel hfb
                    go_wp2_with fail
                    refine' GG.wp_growL _ (GG.BelS wr) [[], [], [0, 1], [0, 1, 2], [], [], [4, 5], [4, 5, 6], [], [0, 1, 2, 3, 4, 5, 6, 7, 8], [0, 1, 2, 3, 4, 5, 6, 7, 8, 9], [0, 1, 2, 3, 4, 5, 6, 7, 8, 9, 10], [0, 1, 2, 3, 4, 5, 6, 7, 8, 9, 10], [0, 1, 2, 3, 4, 5, 6, 7, 8, 9, 10, 11], [0, 1, 2, 3, 4, 5, 6, 7, 8, 9, 10, 11, 12, 13]] (GG.Fact.lit (Rl := GG.RlB) _ :: GG.Fact.lit (Rl := GG.RlB) _ :: GG.Fact.lit (Rl := GG.RlB) _ :: GG.Fact.lit (Rl := GG.RlB) _ :: GG.Fact.lit (Rl := GG.RlB) _ :: GG.Fact.lit (Rl := GG.RlB) _ :: GG.Fact.lit (Rl := GG.RlB) _ :: GG.Fact.lit (Rl := GG.RlB) _ :: GG.Fact.lit (Rl := GG.RlB) _ :: GG.Fact.lit (Rl := GG.RlB) _ :: GG.Fact.lit (Rl := GG.RlB) _ :: GG.Fact.lit (Rl := GG.RlB) _ :: GG.Fact.lit (Rl := GG.RlB) _ :: GG.Fact.lit (Rl := GG.RlB) _ :: GG.Fact.lit (Rl := GG.RlB) _ :: []) (by kernel_rfl) rfl (by kernel_rfl) (()) (DS0.out) ?seqrf
                    case' seqrf => skip
                    (refine' GG.grow_lit (GG.BelS.still) rfl ?wtrf0 ?runrf0 ?putrf0 ?nextrf0; (case wtrf0 => rfl); (case runrf0 => (intro w' hS; (obtain ⟨dn, s, hS⟩ := hS); (have z0 := keep hS.b Z0.out); (have z1 := keep hS.b Z1.out); (have zf := keep hS.b ZF.out); (have hl0 := World.block_lt_of_cell? w' _ z0); (have hl1 := World.block_lt_of_cell? w' _ zf); clear hS; go_simp; first | done | exact rfl)); (case putrf0 => (first | (simp only [Act.put, List.setIfInBounds_toArray, List.set_cons_zero, List.set_cons_succ]; first | done | exact rfl) | rfl)); (case' nextrf0 => skip))
                    (refine' GG.grow_lit (GG.BelS.still) rfl ?wtrf1 ?runrf1 ?putrf1 ?nextrf1; (case wtrf1 => rfl); (case runrf1 => (intro w' hS; (obtain ⟨dn, s, hS⟩ := hS); (have z0 := keep hS.b Z0.out); (have z1 := keep hS.b Z1.out); (have zf := keep hS.b ZF.out); (have hl0 := World.block_lt_of_cell? w' _ z0); (have hl1 := World.block_lt_of_cell? w' _ zf); clear hS; go_simp; first | done | exact rfl)); (case putrf1 => (first | (simp only [Act.put, List.setIfInBounds_toArray, List.set_cons_zero, List.set_cons_succ]; first | done | exact rfl) | rfl)); (case' nextrf1 => skip))
                    (refine' GG.grow_lit (GG.BelS.still) rfl ?wtrf2 ?runrf2 ?putrf2 ?nextrf2; (case wtrf2 => rfl); (case runrf2 => (intro w' hS; (obtain ⟨dn, s, hS⟩ := hS); (have z0 := keep hS.b Z0.out); (have z1 := keep hS.b Z1.out); (have zf := keep hS.b ZF.out); (have hl0 := World.block_lt_of_cell? w' _ z0); (have hl1 := World.block_lt_of_cell? w' _ zf); clear hS; go_simp; first | done | exact rfl)); (case putrf2 => (first | (simp only [Act.put, List.setIfInBounds_toArray, List.set_cons_zero, List.set_cons_succ]; first | done | exact rfl) | rfl)); (case' nextrf2 => skip))
                    (refine' GG.grow_lit (GG.BelS.still) rfl ?wtrf3 ?runrf3 ?putrf3 ?nextrf3; (case wtrf3 => rfl); (case runrf3 => (intro w' hS; (obtain ⟨dn, s, hS⟩ := hS); (have z0 := keep hS.b Z0.out); (have z1 := keep hS.b Z1.out); (have zf := keep hS.b ZF.out); (have hl0 := World.block_lt_of_cell? w' _ z0); (have hl1 := World.block_lt_of_cell? w' _ zf); clear hS; go_simp; first | done | exact rfl)); (case putrf3 => (first | (simp only [Act.put, List.setIfInBounds_toArray, List.set_cons_zero, List.set_cons_succ]; first | done | exact rfl) | rfl)); (case' nextrf3 => skip))
                    (refine' GG.grow_lit (GG.BelS.still) rfl ?wtrf4 ?runrf4 ?putrf4 ?nextrf4; (case wtrf4 => rfl); (case runrf4 => (intro w' hS; (obtain ⟨dn, s, hS⟩ := hS); (have z0 := keep hS.b Z0.out); (have z1 := keep hS.b Z1.out); (have zf := keep hS.b ZF.out); (have hl0 := World.block_lt_of_cell? w' _ z0); (have hl1 := World.block_lt_of_cell? w' _ zf); clear hS; go_simp; first | done | exact rfl)); (case putrf4 => (first | (simp only [Act.put, List.setIfInBounds_toArray, List.set_cons_zero, List.set_cons_succ]; first | done | exact rfl) | rfl)); (case' nextrf4 => skip))
                    (refine' GG.grow_lit (GG.BelS.still) rfl ?wtrf5 ?runrf5 ?putrf5 ?nextrf5; (case wtrf5 => rfl); (case runrf5 => (intro w' hS; (obtain ⟨dn, s, hS⟩ := hS); (have z0 := keep hS.b Z0.out); (have z1 := keep hS.b Z1.out); (have zf := keep hS.b ZF.out); (have hl0 := World.block_lt_of_cell? w' _ z0); (have hl1 := World.block_lt_of_cell? w' _ zf); clear hS; go_simp; first | done | exact rfl)); (case putrf5 => (first | (simp only [Act.put, List.setIfInBounds_toArray, List.set_cons_zero, List.set_cons_succ]; first | done | exact rfl) | rfl)); (case' nextrf5 => skip))
                    (refine' GG.grow_lit (GG.BelS.still) rfl ?wtrf6 ?runrf6 ?putrf6 ?nextrf6; (case wtrf6 => rfl); (case runrf6 => (intro w' hS; (obtain ⟨dn, s, hS⟩ := hS); (have z0 := keep hS.b Z0.out); (have z1 := keep hS.b Z1.out); (have zf := keep hS.b ZF.out); (have hl0 := World.block_lt_of_cell? w' _ z0); (have hl1 := World.block_lt_of_cell? w' _ zf); clear hS; go_simp; first | done | exact rfl)); (case putrf6 => (first | (simp only [Act.put, List.setIfInBounds_toArray, List.set_cons_zero, List.set_cons_succ]; first | done | exact rfl) | rfl)); (case' nextrf6 => skip))
                    (refine' GG.grow_lit (GG.BelS.still) rfl ?wtrf7 ?runrf7 ?putrf7 ?nextrf7; (case wtrf7 => rfl); (case runrf7 => (intro w' hS; (obtain ⟨dn, s, hS⟩ := hS); (have z0 := keep hS.b Z0.out); (have z1 := keep hS.b Z1.out); (have zf := keep hS.b ZF.out); (have hl0 := World.block_lt_of_cell? w' _ z0); (have hl1 := World.block_lt_of_cell? w' _ zf); clear hS; go_simp; first | done | exact rfl)); (case putrf7 => (first | (simp only [Act.put, List.setIfInBounds_toArray, List.set_cons_zero, List.set_cons_succ]; first | done | exact rfl) | rfl)); (case' nextrf7 => skip))
                    (refine' GG.grow_lit (GG.BelS.still) rfl ?wtrf8 ?runrf8 ?putrf8 ?nextrf8; (case wtrf8 => rfl); (case runrf8 => (intro w' hS; (obtain ⟨dn, s, hS⟩ := hS); (have z0 := keep hS.b Z0.out); (have z1 := keep hS.b Z1.out); (have zf := keep hS.b ZF.out); (have hl0 := World.block_lt_of_cell? w' _ z0); (have hl1 := World.block_lt_of_cell? w' _ zf); clear hS; go_simp; first | done | exact rfl)); (case putrf8 => (first | (simp only [Act.put, List.setIfInBounds_toArray, List.set_cons_zero, List.set_cons_succ]; first | done | exact rfl) | rfl)); (case' nextrf8 => skip))
                    (refine' GG.grow_lit_call (u := .tuple #[.int .i64 r, .bool bb]) rfl Tryd.func45 (by kernel_rfl) rfl rfl ?wtrf9 ?runrf9 ?putrf9 ?nextrf9; (case wtrf9 => rfl); (case runrf9 => (intro dn s w' hS hd H; exact (room_is w' a c x u HRZ.out).mono (fun e w2 h => ⟨(), h.1, ⟨hS.b.trans (h.2.mono hS.b.size)⟩, h.2, h.2.size⟩))); (case putrf9 => (first | (simp only [Act.put, List.setIfInBounds_toArray, List.set_cons_zero, List.set_cons_succ]; first | done | exact rfl) | rfl)); (case' nextrf9 => skip))
                    (refine' GG.grow_lit (GG.BelS.still) rfl ?wtrf10 ?runrf10 ?putrf10 ?nextrf10; (case wtrf10 => rfl); (case runrf10 => (intro w' hS; (obtain ⟨dn, s, hS⟩ := hS); (have z0 := keep hS.b Z0.out); (have z1 := keep hS.b Z1.out); (have zf := keep hS.b ZF.out); (have hl0 := World.block_lt_of_cell? w' _ z0); (have hl1 := World.block_lt_of_cell? w' _ zf); clear hS; go_simp; first | done | exact rfl)); (case putrf10 => (first | (simp only [Act.put, List.setIfInBounds_toArray, List.set_cons_zero, List.set_cons_succ]; first | done | exact rfl) | rfl)); (case' nextrf10 => skip))
                    (refine' GG.grow_lit (GG.BelS.still) rfl ?wtrf11 ?runrf11 ?putrf11 ?nextrf11; (case wtrf11 => rfl); (case runrf11 => (intro w' hS; (obtain ⟨dn, s, hS⟩ := hS); (have z0 := keep hS.b Z0.out); (have z1 := keep hS.b Z1.out); (have zf := keep hS.b ZF.out); (have hl0 := World.block_lt_of_cell? w' _ z0); (have hl1 := World.block_lt_of_cell? w' _ zf); clear hS; go_simp; first | done | exact rfl)); (case putrf11 => (first | (simp only [Act.put, List.setIfInBounds_toArray, List.set_cons_zero, List.set_cons_succ]; first | done | exact rfl) | rfl)); (case' nextrf11 => skip))
                    (refine' GG.grow_lit (GG.BelS.still) rfl ?wtrf12 ?runrf12 ?putrf12 ?nextrf12; (case wtrf12 => rfl); (case runrf12 => (intro w' hS; (obtain ⟨dn, s, hS⟩ := hS); (have z0 := keep hS.b Z0.out); (have z1 := keep hS.b Z1.out); (have zf := keep hS.b ZF.out); (have hl0 := World.block_lt_of_cell? w' _ z0); (have hl1 := World.block_lt_of_cell? w' _ zf); clear hS; go_simp; first | done | exact rfl)); (case putrf12 => (first | (simp only [Act.put, List.setIfInBounds_toArray, List.set_cons_zero, List.set_cons_succ]; first | done | exact rfl) | rfl)); (case' nextrf12 => skip))
                    (refine' GG.grow_lit (GG.BelS.still) rfl ?wtrf13 ?runrf13 ?putrf13 ?nextrf13; (case wtrf13 => rfl); (case runrf13 => (intro w' hS; (obtain ⟨dn, s, hS⟩ := hS); (have z0 := keep hS.b Z0.out); (have z1 := keep hS.b Z1.out); (have zf := keep hS.b ZF.out); (have hl0 := World.block_lt_of_cell? w' _ z0); (have hl1 := World.block_lt_of_cell? w' _ zf); clear hS; go_simp; first | done | exact rfl)); (case putrf13 => (first | (simp only [Act.put, List.setIfInBounds_toArray, List.set_cons_zero, List.set_cons_succ]; first | done | exact rfl) | rfl)); (case' nextrf13 => skip))
                    (refine' GG.grow_lit (GG.BelS.still) rfl ?wtrf14 ?runrf14 ?putrf14 ?nextrf14; (case wtrf14 => rfl); (case runrf14 => (intro w' hS; (obtain ⟨dn, s, hS⟩ := hS); (have z0 := keep hS.b Z0.out); (have z1 := keep hS.b Z1.out); (have zf := keep hS.b ZF.out); (have hl0 := World.block_lt_of_cell? w' _ z0); (have hl1 := World.block_lt_of_cell? w' _ zf); clear hS; go_simp; first | done | exact rfl)); (case putrf14 => (first | (simp only [Act.put, List.setIfInBounds_toArray, List.set_cons_zero, List.set_cons_succ]; first | done | exact rfl) | rfl)); (case' nextrf14 => skip))
                    intro dn s w7 hS _ _
                    have HM7 := Lib.hid (HM.out.old hS.b)
                    clear hS DS0
                    cases bb with
                    | false =>
                      have HLK2 := Lib.hid (HLK.out.no HAC.out HU2.out (fun r' h' => by rw [HX.out, HRZ.out] at h'; simp at h'))
                      go_wp2_with fail
                      go_roundw
                      case rel => exact ⟨i + 1, l2, que2, hlt, by go_num, HRE.out, HSA.out, HLK2.out, HU2.out, HRU.out, HCT.out, HM7.out⟩
                      case measure => simp [intOf]; omega
                    | true =>
                      obtain ⟨v, rfl, hroom⟩ := room_to HAC.out hlt (by rw [HX.out]; exact HRZ.out)
                      have hvk : v < k := by
                        obtain ⟨i', hi', h'⟩ := hroom
                        have := HEI.out i' hi'
                        rcases h' with ⟨e', -⟩ | ⟨e', -⟩ <;> rw [e'] at this
                        · exact this.2
                        · exact this.1
                      have HROOM := Lib.hid hroom
                      clear hroom
                      have hvi : (v : Int) < (k : Int) := by omega
                      obtain ⟨oc, of, ol⟩ := HM7.out.offc (v := v) (by rw [HRE.out.len]; exact hvk)
                      by_cases hv : byL l2 v = -2
                      · have HRE2 : Hid (Rea k E f (setB (markL k S)) (l2.set v (i : Int)) (que2 ++ [v]) (fun x => x = u)) := Lib.hid (HRE.out.add hvk hv (by omega) (.step HRU.out HROOM.out))
                        have HVL : Hid (v < l2.length) := Lib.hid (by rw [HRE.out.len]; exact hvk)
                        have HUP : Hid (∀ y, byL l2 y ≠ -2 → byL (l2.set v (i : Int)) y ≠ -2) := Lib.hid fun y hy => by
                          rw [byL_set HVL.out]
                          split
                          · omega
                          · exact hy
                        have HSA2 : Hid (∀ y, y ∈ S → byL (l2.set v (i : Int)) y ≠ -2) := Lib.hid fun y hy => HUP.out y (HSA.out y hy)
                        have HU3 := Lib.hid (HUP.out u HU2.out)
                        have HLK2 := Lib.hid ((HLK.out.set HVL.out (show (i : Int) ≠ -2 by omega)).no HAC.out HU3.out (fun r' h' => by
                          rw [HX.out, HRZ.out] at h'
                          have : v = r' := by
                            have := congrArg Prod.fst h'
                            simp only at this
                            omega
                          rw [← this, byL_set HVL.out, if_pos rfl]
                          omega))
                        have HCT2 : Hid (cntU (l2.set v (i : Int)) + (que2 ++ [v]).length = T) := Lib.hid (by
                          have := cntU_set (l := l2) (c := (i : Int)) HVL.out hv (by omega)
                          have := HCT.out
                          rw [List.length_append, List.length_singleton]
                          omega)
                        have hset := HM7.out.set v (i : Int)
                        obtain ⟨w8, hw8⟩ := named (w7.setCell ⟨ob, v, none⟩ (.int .i64 (i : Int)))
                        rw [← hw8] at hset
                        obtain ⟨y8, hy8⟩ := named (w8.alloc (.cells #[.int .i64 (v : Int)] 3))
                        have hby : Below w8.heap.size w8 y8 := by rw [hy8]; exact below_alloc1 _
                        obtain ⟨gy, hgy⟩ : ∃ g, w8.heap.size = g := ⟨_, rfl⟩
                        have ky : Blk y8 gy #[.int .i64 (v : Int)] 3 := by rw [hy8]; exact Blk.new _ _ _ _ hgy
                        obtain ⟨q9, c9, w9, hr9, hm9⟩ := hset.app v hby ky (by have := HCT.out; have := HT.out; have := HCE.out; have := HN.out.1; omega)
                        have HR9 := Lib.hid hr9
                        have HM9 := Lib.hid hm9
                        have e8 := hy8.symm
                        have e7 := hw8.symm
                        have du : (byL l2 v == -2) = true := by simpa using hv
                        clear hby ky hr9 hm9 hy8 hw8 hset hv
                        go_wp2_with (at_builtin; refine wpList_append_run (by rfl) _ _ _ rfl _ _ _ rfl rfl HR9.out ?_)
                        clear e7 e8 hgy
                        go_roundw
                        case rel => exact ⟨i + 1, l2.set v (i : Int), que2 ++ [v], hlt, by go_num, HRE2.out, HSA2.out, HLK2.out, HU3.out, HRU.out, HCT2.out, HM9.out⟩
                        case measure => simp [intOf]; omega
                      · have du : (byL l2 v == -2) = false := by simpa using hv
                        have HLK2 := Lib.hid (HLK.out.no HAC.out HU2.out (fun r' h' => by
                          rw [HX.out, HRZ.out] at h'
                          have : v = r' := by
                            have := congrArg Prod.fst h'
                            simp only at this
                            omega
                          rw [← this]
                          exact hv))
                        clear hv
                        go_wp2_with fail
                        go_roundw
                        case rel => exact ⟨i + 1, l2, que2, hlt, by go_num, HRE.out, HSA.out, HLK2.out, HU2.out, HRU.out, HCT.out, HM7.out⟩
                        case measure => simp [intOf]; omega
                  · obtain rfl : i = E.length := by omega
                    have HRE3 := Lib.hid (HRE.out.close HLK.out.all)
                    have HRD2 := Lib.hid (rdL_of HM.out.o HRE.out.len)
                    obtain ⟨q7, c7, rfl⟩ := HM.out.q.shape
                    clear hlt hi
                    go_wp2_with fail
                    go_roundw
                    case rel => exact ⟨l2, que2, HRE3.out, HSA.out, by have := HCT.out; have := HT.out; have := HCE.out; omega, HM.out⟩
                    case measure =>
                      rw [HRD.out, HRD2.out]
                      have := HCT.out
                      have := HT.out
                      simp only [qLen]
                      omega
end Go.Proofs.YtleheaffipokfaaDoor
