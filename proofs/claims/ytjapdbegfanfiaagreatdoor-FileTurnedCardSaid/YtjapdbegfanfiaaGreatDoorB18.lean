/-
  The program's file.Hex and file.Unhex, at the samples that the laws' own test of known answers asks.
-/
import Derived.Test.YtjapdbegfanfiaaGreatDoorB17
import Derived.Test.YtjapdbegfanfiaaGreatDoorLaw3T
import Derived.Deep.AppendLies
import Derived.Deep.RegionWith
import Derived.Lib.Bytealg
import Derived.Deep.CutRange
import Derived.Test.YtjapdbegfanfiaaGreatDoorV5
namespace Go.Proofs.YtjapdbegfanfiaaGreatDoor
open Go.RowKit

theorem ext_index (s : ByteArray) (c : Int) (w : World) : (callFunc 106 #[.string s, .int .u8 c]).run Tryz.prog w = .ok (.value (.int .i64 (Lib.indexByte s.data.toList c.toNat.toUInt8))) w := by
  rw [run_callFunc_extern (e := Extern.BytealgIndexByte.indexByte) Tryz.func106 (by kernel_rfl) rfl (by kernel_rfl) (by kernel_rfl), Lib.run_indexByteString]
  rfl
set_option maxRecDepth 100000 in
set_option maxHeartbeats 4000000 in
theorem vIndexByte (s : ByteArray) (c X : Int) (w : World) (h : Lib.indexByte s.data.toList c.toNat.toUInt8 = X) : Calls Tryz.prog 82 #[.string s, .int .u8 c] w fun ev w' => ev = .returned (.int .i64 X) ∧ w = w' := by
  have hx := ext_index s c
  rw [h] at hx
  clear h
  go_enter Tryz.func82, Tryz.ntmps82
  go_wp2_with fail
  go_enter Tryz.func99, Tryz.ntmps99
  go_wp2_with fail
  go_ret
  exact ⟨rfl, rfl⟩
set_option maxRecDepth 100000 in
set_option maxHeartbeats 4000000 in
theorem vHalf (c X : Int) (w : World) (h : Lib.indexByte (show ByteArray from ⟨#[48, 49, 50, 51, 52, 53, 54, 55, 56, 57, 97, 98, 99, 100, 101, 102]⟩).data.toList c.toNat.toUInt8 = X) (h0 : 0 ≤ X ∧ X ≤ 15) : Calls Tryz.prog 49 #[.int .u8 c] w fun ev w' => ev = .returned (.int .u8 X) ∧ w = w' := by
  have H := Lib.hid h
  have hw : IntKind.u8.wrap X = X := by rw [IntKind.wrap_u8']; omega
  clear h h0
  go_enter Tryz.func49, Tryz.ntmps49
  go_wp2_with fail
  refine (vIndexByte _ c X _ H.out).mono ?_
  rintro ev w' ⟨rfl, rfl⟩
  go_wp2_with fail
  go_ret
  exact ⟨rfl, rfl⟩
set_option maxRecDepth 100000 in
set_option maxHeartbeats 4000000 in
theorem noDigit_ff (w : World) : Calls Tryz.prog 48 #[.string ⟨#[48, 97, 102, 102]⟩] w fun ev w' => ev = .returned (.int .i64 (-1)) ∧ w = w' := by
  go_enter Tryz.func48, Tryz.ntmps48
  go_wp2_with fail
  go_loopw [6] (fun i wr => ∃ (k : Nat), k ≤ 4 ∧ i = .int .i64 k ∧ wr = w) (fun i _ => 4 - (intOf i).toNat)
  case atStart => exact ⟨0, Nat.zero_le _, rfl, rfl⟩
  case round =>
    obtain ⟨k, hk, rfl, rfl⟩ := hrel
    obtain rfl | rfl | rfl | rfl | rfl : k = 0 ∨ k = 1 ∨ k = 2 ∨ k = 3 ∨ k = 4 := by omega
    · go_wp2_with fail
      refine (vIndexByte _ 48 0 _ (by decide)).mono ?_
      rintro ev w' ⟨rfl, rfl⟩
      go_wp2_with fail
      go_roundw
      case rel => exact ⟨1, by omega, by go_num, trivial⟩
      case measure => simp [intOf]
    · go_wp2_with fail
      refine (vIndexByte _ 97 10 _ (by decide)).mono ?_
      rintro ev w' ⟨rfl, rfl⟩
      go_wp2_with fail
      go_roundw
      case rel => exact ⟨2, by omega, by go_num, trivial⟩
      case measure => simp [intOf]
    · go_wp2_with fail
      refine (vIndexByte _ 102 15 _ (by decide)).mono ?_
      rintro ev w' ⟨rfl, rfl⟩
      go_wp2_with fail
      go_roundw
      case rel => exact ⟨3, by omega, by go_num, trivial⟩
      case measure => simp [intOf]
    · go_wp2_with fail
      refine (vIndexByte _ 102 15 _ (by decide)).mono ?_
      rintro ev w' ⟨rfl, rfl⟩
      go_wp2_with fail
      go_roundw
      case rel => exact ⟨4, by omega, by go_num, trivial⟩
      case measure => simp [intOf]
    · go_wp2_with fail
      go_ret
      exact ⟨rfl, rfl⟩
set_option maxRecDepth 100000 in
set_option maxHeartbeats 4000000 in
theorem noDigit_f (w : World) : Calls Tryz.prog 48 #[.string ⟨#[48, 97, 102]⟩] w fun ev w' => ev = .returned (.int .i64 (-1)) ∧ w = w' := by
  go_enter Tryz.func48, Tryz.ntmps48
  go_wp2_with fail
  go_loopw [6] (fun i wr => ∃ (k : Nat), k ≤ 3 ∧ i = .int .i64 k ∧ wr = w) (fun i _ => 3 - (intOf i).toNat)
  case atStart => exact ⟨0, Nat.zero_le _, rfl, rfl⟩
  case round =>
    obtain ⟨k, hk, rfl, rfl⟩ := hrel
    obtain rfl | rfl | rfl | rfl : k = 0 ∨ k = 1 ∨ k = 2 ∨ k = 3 := by omega
    · go_wp2_with fail
      refine (vIndexByte _ 48 0 _ (by decide)).mono ?_
      rintro ev w' ⟨rfl, rfl⟩
      go_wp2_with fail
      go_roundw
      case rel => exact ⟨1, by omega, by go_num, trivial⟩
      case measure => simp [intOf]
    · go_wp2_with fail
      refine (vIndexByte _ 97 10 _ (by decide)).mono ?_
      rintro ev w' ⟨rfl, rfl⟩
      go_wp2_with fail
      go_roundw
      case rel => exact ⟨2, by omega, by go_num, trivial⟩
      case measure => simp [intOf]
    · go_wp2_with fail
      refine (vIndexByte _ 102 15 _ (by decide)).mono ?_
      rintro ev w' ⟨rfl, rfl⟩
      go_wp2_with fail
      go_roundw
      case rel => exact ⟨3, by omega, by go_num, trivial⟩
      case measure => simp [intOf]
    · go_wp2_with fail
      go_ret
      exact ⟨rfl, rfl⟩

/-- What Unhex answers. -/
def X5Post (l : List Int) (F : Flt) (w : World) (ev : Ending) (w' : World) : Prop := ∃ v er, ev = .returned (.tuple #[v, er]) ∧ U8s w' v l ∧ FaultV w' er F.1 F.2 ∧ Below w.heap.size w w'
set_option maxRecDepth 100000 in
set_option maxHeartbeats 4000000 in
theorem vFaultAt (a e : Int) (w : World) : Calls Tryz.prog 43 #[.int .i64 a, .int .i64 e] w (EPost [(fileB, a)] e w) := by
  go_enter Tryz.func43, Tryz.ntmps43
  go_wp2
  go_ret
  refine ⟨_, rfl, Or.inr ⟨by simp, ⟨w.heap.size, .iface 83 (.int .i64 e), rfl, ?_, ?_, ?_, rfl⟩⟩, below_new8 _⟩
  · simp [fileB]
  · simp
  · simp
set_option maxRecDepth 100000 in
set_option maxHeartbeats 4000000 in
theorem vUnhex_f (w : World) : Calls Tryz.prog 21 #[.string ⟨#[48, 97, 102]⟩] w (X5Post [] ([(fileB, 2)], 2) w) := by
  go_enter Tryz.func21, Tryz.ntmps21
  go_wp2_with fail
  refine (noDigit_f _).mono ?_
  rintro ev w1 ⟨rfl, rfl⟩
  go_wp2_with fail
  refine (vFaultAt 2 2 _).mono ?_
  rintro ev w2 ⟨v, rfl, hv, hb⟩
  have HP : Hid (X5Post [] ([(fileB, 2)], 2) w (.returned (.tuple #[.slice none 0 0, v])) w2) := Lib.hid ⟨_, _, rfl, U8s.nil _, hv, hb⟩
  clear hv hb
  go_wp2_with fail
  exact bodyPost_ret (v := .tuple #[.slice none 0 0, v]) (by simp [results, Tryz.results21, go_sem]) rfl HP.out
set_option maxRecDepth 100000 in
set_option maxHeartbeats 4000000 in
theorem vUnhex_ff (w : World) : Calls Tryz.prog 21 #[.string ⟨#[48, 97, 102, 102]⟩] w (X5Post [10, 255] fltOK w) := by
  obtain ⟨i0, hi, hz0, hz1, hz2⟩ := info_parts info8
  obtain ⟨wm, hrun, ho, hg⟩ := run_make_own (P := Tryz.prog) w w.heap.size 22 5 i0 (.int .u8 0) 1 Tryz.underlying22 hi hz0 hz1 .i64 .i64 2 (by rw [hz2]; decide) (by decide) (Nat.le_refl _)
  have HO : Hid (OwnB w.heap.size wm (.slice (some ⟨w.heap.size, 0, none⟩) 0 2) [] ∧ Below w.heap.size w wm) := Lib.hid ⟨ho, ⟨hg.os, hg.tape, hg.output, hg.size, fun k hk => hg.block k hk (by simp)⟩⟩
  have hrun' : (Instr.makeSlice 22 (.int .i64 0) (.int .i64 2)).run Tryz.prog w = .ok (.slice (some ⟨w.heap.size, 0, none⟩) 0 2) wm := hrun
  clear ho hg hi hz0 hz1 hz2 hrun
  go_enter Tryz.func21, Tryz.ntmps21
  go_wp2_with fail
  refine (noDigit_ff _).mono ?_
  rintro ev w1 ⟨rfl, rfl⟩
  go_wp2_with fail
  clear hrun'
  have H0 : Hid (OwnB w.heap.size wm (.slice (some ⟨w.heap.size, 0, none⟩) 0 2) (([10, 255] : List Int).take 0) ∧ Below w.heap.size w wm) := HO
  clear HO
  go_loopw [5, 6] (fun b i wr => ∃ (k : Nat), k ≤ 2 ∧ i = .int .i64 ((2 * k : Nat) : Int) ∧ Hid (OwnB w.heap.size wr b (([10, 255] : List Int).take k) ∧ Below w.heap.size w wr)) (fun _ i _ => 4 - (intOf i).toNat)
  case atStart => exact ⟨0, Nat.zero_le _, rfl, H0⟩
  case round =>
    clear H0
    obtain ⟨k, hk, rfl, HR⟩ := hrel
    obtain rfl | rfl | rfl : k = 0 ∨ k = 1 ∨ k = 2 := by omega
    · have hbd : Below wr.heap.size wr ((wr.drew).alloc (.cells #[.int .u8 10] 5)) := ((Below.refl _ _).drew).alloc (Nat.le_refl _) _
      obtain ⟨v', w2, hr, ho, he⟩ := BufV.app (w := (wr.drew).alloc (.cells #[.int .u8 10] 5)) (v := .slice (some ⟨wr.heap.size, 0, none⟩) 1 1) (m := [10]) (Or.inl (own_below8 (w := wr) HR.out.1 hbd)) (by have := HR.out.2.size; simp; omega) ⟨_, U8at.lit wr.drew [10] (by simp) _ rfl⟩ (by simp) (by simp)
      have HRUN := Lib.hid hr
      have HN : Hid (OwnB w.heap.size w2 v' (([10, 255] : List Int).take 1) ∧ Below w.heap.size w w2) := Lib.hid ⟨ho, HR.out.2.trans (((Ext.below _ hbd).trans he).low HR.out.1.ge HR.out.2.size)⟩
      have e1 : IntKind.i64.wrap 1 = 1 := by decide
      have e2 : IntKind.u8.wrap 0 = 0 := by decide
      have e3 : bits BinOp.or IntKind.u8 0 10 = 10 := by decide
      clear hr ho he HR
      go_upto_region 10 with fail
      go_region_law (first | (refine step_append_run rfl _ _ 22 rfl _ _ _ rfl rfl HRUN.out ?_) | (go_simp; go_at_call 49; first | refine (vHalf 48 0 _ (by decide) (by decide)).mono ?_ | refine (vHalf 97 10 _ (by decide) (by decide)).mono ?_; rintro ev w' ⟨rfl, rfl⟩))
      all_goals
        go_wp2_with fail
        go_roundw
        case rel => exact ⟨1, by omega, by go_num, HN⟩
        case measure => simp [intOf]
    · have hbd : Below wr.heap.size wr ((wr.drew).alloc (.cells #[.int .u8 255] 5)) := ((Below.refl _ _).drew).alloc (Nat.le_refl _) _
      obtain ⟨v', w2, hr, ho, he⟩ := BufV.app (w := (wr.drew).alloc (.cells #[.int .u8 255] 5)) (v := .slice (some ⟨wr.heap.size, 0, none⟩) 1 1) (m := [255]) (Or.inl (own_below8 (w := wr) HR.out.1 hbd)) (by have := HR.out.2.size; simp; omega) ⟨_, U8at.lit wr.drew [255] (by simp) _ rfl⟩ (by simp) (by simp)
      have HRUN := Lib.hid hr
      have HN : Hid (OwnB w.heap.size w2 v' (([10, 255] : List Int).take 2) ∧ Below w.heap.size w w2) := Lib.hid ⟨ho, HR.out.2.trans (((Ext.below _ hbd).trans he).low HR.out.1.ge HR.out.2.size)⟩
      have e1 : IntKind.i64.wrap 3 = 3 := by decide
      have e2 : IntKind.u8.wrap 240 = 240 := by decide
      have e3 : bits BinOp.or IntKind.u8 240 15 = 255 := by decide
      clear hr ho he HR
      go_upto_region 10 with fail
      go_region_law (first | (refine step_append_run rfl _ _ 22 rfl _ _ _ rfl rfl HRUN.out ?_) | (go_simp; go_at_call 49; refine (vHalf 102 15 _ (by decide) (by decide)).mono ?_; rintro ev w' ⟨rfl, rfl⟩))
      all_goals
        go_wp2_with fail
        go_roundw
        case rel => exact ⟨2, by omega, by go_num, HN⟩
        case measure => simp [intOf]
    · have HX : Hid (X5Post [10, 255] fltOK w (.returned (.tuple #[u5, .nilIface])) wr) := Lib.hid ⟨_, _, rfl, HR.out.1.u8s (by simp), Or.inl ⟨rfl, rfl⟩, HR.out.2⟩
      clear HR
      go_wp2_with fail
      exact bodyPost_ret (v := .tuple #[u5, .nilIface]) (by simp [results, Tryz.results21, go_sem]) rfl HX.out
set_option maxRecDepth 100000 in
set_option maxHeartbeats 4000000 in
theorem vHex_ff {w : World} {v : Value} (h : U8s w v [10, 255]) : Calls Tryz.prog 22 #[v] w fun ev w' => ev = .returned (.string ⟨#[48, 97, 102, 102]⟩) ∧ Below w.heap.size w w' := by
  obtain ⟨q, c, rfl⟩ := h.shape
  have HU := Lib.hid (OldB.of h)
  clear h
  obtain ⟨i0, hi, hz0, hz1, hz2⟩ := info_parts info8
  obtain ⟨wm, hrun, ho, hg⟩ := run_make_own (P := Tryz.prog) w w.heap.size 22 5 i0 (.int .u8 0) 1 Tryz.underlying22 hi hz0 hz1 .i64 .i64 4 (by rw [hz2]; decide) (by decide) (Nat.le_refl _)
  have HO : Hid (OwnB w.heap.size wm (.slice (some ⟨w.heap.size, 0, none⟩) 0 4) (([48, 97, 102, 102] : List Int).take (2 * 0)) ∧ Below w.heap.size w wm) := Lib.hid ⟨ho, ⟨hg.os, hg.tape, hg.output, hg.size, fun k hk => hg.block k hk (by simp)⟩⟩
  have hrun' : (Instr.makeSlice 22 (.int .i64 0) (.int .i64 4)).run Tryz.prog w = .ok (.slice (some ⟨w.heap.size, 0, none⟩) 0 4) wm := hrun
  have e4 : IntKind.i64.wrap 4 = 4 := by decide
  clear ho hg hi hz0 hz1 hz2 hrun
  go_enter Tryz.func22, Tryz.ntmps22
  go_wp2_with fail
  clear hrun'
  go_loopw [3, 12] (fun b i wr => ∃ (k : Nat), k ≤ 2 ∧ i = .int .i64 k ∧ Hid (OwnB w.heap.size wr b (([48, 97, 102, 102] : List Int).take (2 * k)) ∧ Below w.heap.size w wr)) (fun _ i _ => 2 - (intOf i).toNat)
  case atStart => exact ⟨0, Nat.zero_le _, rfl, HO⟩
  case round =>
    clear HO
    obtain ⟨k, hk, rfl, HR⟩ := hrel
    obtain rfl | rfl | rfl : k = 0 ∨ k = 1 ∨ k = 2 := by omega
    · have hbd : Below wr.heap.size wr ((wr.drew).alloc (.cells #[.int .u8 48, .int .u8 97] 5)) := ((Below.refl _ _).drew).alloc (Nat.le_refl _) _
      obtain ⟨x, o, hq, -, hcell⟩ := (HU.out.below HR.out.2).at 0 (by simp)
      subst hq
      have hcell' : wr.cell? ⟨x, o, none⟩ = some (.int .u8 10) := hcell
      have ea : bits BinOp.and IntKind.u8 10 15 = 10 := by decide
      obtain ⟨v', w2, hr, ho, he⟩ := BufV.app (w := (wr.drew).alloc (.cells #[.int .u8 48, .int .u8 97] 5)) (v := .slice (some ⟨wr.heap.size, 0, none⟩) 2 2) (m := [48, 97]) (Or.inl (own_below8 (w := wr) HR.out.1 hbd)) (by have := HR.out.2.size; simp; omega) ⟨_, U8at.lit wr.drew [48, 97] (by simp) _ rfl⟩ (by simp) (by simp)
      have HRUN := Lib.hid hr
      have HN : Hid (OwnB w.heap.size w2 v' (([48, 97, 102, 102] : List Int).take 2) ∧ Below w.heap.size w w2) := Lib.hid ⟨ho, HR.out.2.trans (((Ext.below _ hbd).trans he).low HR.out.1.ge HR.out.2.size)⟩
      clear hr ho he HR hcell
      go_upto_region 5 with fail
      go_region_law (first | (refine step_append_run rfl _ _ 22 rfl _ _ _ rfl rfl HRUN.out ?_))
      all_goals
        go_wp2_with fail
        go_roundw
        case rel => exact ⟨1, by omega, by go_num, HN⟩
        case measure => simp [intOf]
    · have hbd : Below wr.heap.size wr ((wr.drew).alloc (.cells #[.int .u8 102, .int .u8 102] 5)) := ((Below.refl _ _).drew).alloc (Nat.le_refl _) _
      obtain ⟨x, o, hq, -, hcell⟩ := (HU.out.below HR.out.2).at 1 (by simp)
      subst hq
      have hcell' : wr.cell? ⟨x, o + 1, none⟩ = some (.int .u8 255) := hcell
      have ea : bits BinOp.and IntKind.u8 255 15 = 15 := by decide
      obtain ⟨v', w2, hr, ho, he⟩ := BufV.app (w := (wr.drew).alloc (.cells #[.int .u8 102, .int .u8 102] 5)) (v := .slice (some ⟨wr.heap.size, 0, none⟩) 2 2) (m := [102, 102]) (Or.inl (own_below8 (w := wr) HR.out.1 hbd)) (by have := HR.out.2.size; simp; omega) ⟨_, U8at.lit wr.drew [102, 102] (by simp) _ rfl⟩ (by simp) (by simp)
      have HRUN := Lib.hid hr
      have HN : Hid (OwnB w.heap.size w2 v' (([48, 97, 102, 102] : List Int).take 4) ∧ Below w.heap.size w w2) := Lib.hid ⟨ho, HR.out.2.trans (((Ext.below _ hbd).trans he).low HR.out.1.ge HR.out.2.size)⟩
      clear hr ho he HR hcell
      go_upto_region 5 with fail
      go_region_law (first | (refine step_append_run rfl _ _ 22 rfl _ _ _ rfl rfl HRUN.out ?_))
      all_goals
        go_wp2_with fail
        go_roundw
        case rel => exact ⟨2, by omega, by go_num, HN⟩
        case measure => simp [intOf]
    · have hq := text_of (s := ⟨#[48, 97, 102, 102]⟩) (HR.out.1.u8s (by simp)) (by decide)
      have HB := Lib.hid HR.out.2
      clear HR
      go_wp2_with fail
      go_ret
      exact ⟨rfl, HB.out⟩

end Go.Proofs.YtjapdbegfanfiaaGreatDoor

/-
  The law's own sample of known answers.
-/
namespace Go.Proofs.YtjapdbegfanfiaaGreatDoor
open Go.RowKit

def n5 : NetD := ⟨[(3, -1, 0)], [(0, 0, 9)], [(1, 1, [1152921504606846976])]⟩
theorem n5_ok : chkN n5 = fltOK := by decide
theorem n5_in : InNet n5 := by
  refine ⟨?_, ?_, ?_⟩
  · intro x hx; simp [n5] at hx; subst hx; simp
  · intro x hx; simp [n5] at hx; subst hx; simp
  · intro x hx; simp [n5] at hx; subst hx; exact ⟨by simp, by simp, by intro y hy; simp at hy; omega⟩
theorem n5_few : NetFew n5 := ⟨by decide, by decide, by decide, by decide⟩
theorem n5_len : (fileN n5).length = 20 := by decide
theorem n5_enc : encodeF n5 = (fileN n5, fltOK) := by
  unfold encodeF
  rw [if_neg (by rw [n5_ok]; simp [fltOK]), if_neg (by rw [n5_len]; omega)]
theorem n5_parse : parseF (fileN n5) = (n5, fltOK) := parse_file (by rw [n5_ok]; rfl) (by rw [n5_len]; omega)
theorem n5_head : strOfNums ((fileN n5).take 4) = ⟨#[82, 78, 68, 49]⟩ := by decide
theorem n5_mid : strOfNums (((fileN n5).drop 4).take 12) = ⟨#[1, 1, 1, 1, 1, 0, 6, 1, 0, 0, 0, 10]⟩ := by decide
theorem short_parse : parseF [82, 78, 68, 49, 0, 0, 0] = (emptyN, ([(fileB, 0)], 3)) := by
  unfold parseF
  rw [if_neg (by simp), if_pos (by simp)]
theorem hex_txt : strOfNums [10, 255] = ⟨#[10, 255]⟩ := by decide
theorem tri_lit {w : World} {g : Nat} {x : Tri} {t : TypeId} (h : Blk w g #[.int .i64 x.1, .int .i64 x.2.1, .int .i64 x.2.2] t) : Tris w (.slice (some ⟨g, 0, none⟩) 1 1) [x] := by
  refine Or.inr ⟨by simp, g, 0, 1, by simp, by omega, rfl, fun i hi => ?_⟩
  obtain rfl : i = 0 := by simpa using hi
  obtain ⟨a, b, c, -, -, -⟩ := h.o3
  exact ⟨a, b, c⟩
theorem tab_lit {w : World} {g : Nat} {x : Tab} {u : Value} {t : TypeId} (h : Blk w g #[.int .i64 x.1, .int .i64 x.2.1, u] t) (hu : I64s w u x.2.2) : Tabs w (.slice (some ⟨g, 0, none⟩) 1 1) [x] := by
  refine Or.inr ⟨by simp, g, 0, 1, by simp, by omega, rfl, fun i hi => ?_⟩
  obtain rfl : i = 0 := by simpa using hi
  obtain ⟨a, b, c, -, -, -⟩ := h.o3
  exact ⟨u, a, b, c, hu⟩
theorem i64_lit {w : World} {g : Nat} {x : Int} {t : TypeId} (h : Blk w g #[.int .i64 x] t) : I64s w (.slice (some ⟨g, 0, none⟩) 1 1) [x] := by
  refine Or.inr ⟨by simp, g, 0, 1, by simp, by omega, rfl, fun i hi => ?_⟩
  obtain rfl : i = 0 := by simpa using hi
  exact h.o1.1
/-- The sample, as it is laid. -/
theorem n5_laid (w : World) (W : World) (hW : W = (((((w.alloc (.cells #[.int .i64 3, .int .i64 (-1), .int .i64 0] 58)).alloc (.cells #[.int .i64 0, .int .i64 0, .int .i64 9] 60)).alloc (.cells #[.int .i64 1152921504606846976] 2)).alloc (.cells #[.int .i64 1, .int .i64 1, .slice (some ⟨w.heap.size + 1 + 1, 0, none⟩) 1 1] 63)).alloc (.cells #[.slice (some ⟨w.heap.size, 0, none⟩) 1 1, .slice (some ⟨w.heap.size + 1, 0, none⟩) 1 1, .slice (some ⟨w.heap.size + 1 + 1 + 1, 0, none⟩) 1 1] 37))) :
    NetV W (.agg #[.slice (some ⟨w.heap.size, 0, none⟩) 1 1, .slice (some ⟨w.heap.size + 1, 0, none⟩) 1 1, .slice (some ⟨w.heap.size + 1 + 1 + 1, 0, none⟩) 1 1]) n5 ∧ Blk W (w.heap.size + 1 + 1 + 1 + 1) #[.slice (some ⟨w.heap.size, 0, none⟩) 1 1, .slice (some ⟨w.heap.size + 1, 0, none⟩) 1 1, .slice (some ⟨w.heap.size + 1 + 1 + 1, 0, none⟩) 1 1] 37 ∧ Below w.heap.size w W := by
  subst hW
  refine ⟨⟨_, _, _, rfl, tri_lit (x := (3, -1, 0)) (t := 58) ?_, tri_lit (x := (0, 0, 9)) (t := 60) ?_, tab_lit (x := (1, 1, [1152921504606846976])) (t := 63) ?_ (i64_lit (g := w.heap.size + 1 + 1) (t := 2) ?_)⟩, ?_, ?_⟩
  · exact ((((Blk.new _ _ _ _ rfl).old _).old _).old _).old _
  · exact (((Blk.new _ _ _ _ (by simp)).old _).old _).old _
  · exact (Blk.new _ _ _ _ (by simp)).old _
  · exact ((Blk.new _ _ _ _ (by simp)).old _).old _
  · exact Blk.new _ _ _ _ (by simp)
  · iterate 5 (refine Below.alloc ?_ (by simp; try omega) _)
    exact Below.refl _ _

set_option maxRecDepth 100000 in
set_option maxHeartbeats 8000000 in
theorem known5_any (w : World) (hg : ErrT w) : Calls Tryz.prog 8 #[] w fun e w' => e = .returned (.bool true) ∧ Below w.heap.size w w' := by
  have HG0 := Lib.hid hg
  clear hg
  go_enter Tryz.func8, Tryz.ntmps8
  go_upto_region 2 with fail
  obtain ⟨W1, hW1⟩ := named (((((w.alloc (.cells #[.int .i64 3, .int .i64 (-1), .int .i64 0] 58)).alloc (.cells #[.int .i64 0, .int .i64 0, .int .i64 9] 60)).alloc (.cells #[.int .i64 1152921504606846976] 2)).alloc (.cells #[.int .i64 1, .int .i64 1, .slice (some ⟨w.heap.size + 1 + 1, 0, none⟩) 1 1] 63)).alloc (.cells #[.slice (some ⟨w.heap.size, 0, none⟩) 1 1, .slice (some ⟨w.heap.size + 1, 0, none⟩) 1 1, .slice (some ⟨w.heap.size + 1 + 1 + 1, 0, none⟩) 1 1] 37))
  obtain ⟨hv, hk, hb⟩ := n5_laid w W1 hW1
  rw [← hW1]
  have HV := Lib.hid hv
  have KN := Lib.hid hk
  have BB := Lib.hid hb
  clear hW1 hv hk hb
  obtain ⟨k0, k1, k2, -, -, -⟩ := KN.out.o3
  go_wp2_with fail
  refine (vtoF HV.out n5_few).mono ?_
  rintro ev w2 ⟨v, rfl, hV, hb⟩
  have HV2 := Lib.hid hV
  have KN2 := Lib.hid (KN.out.keep hb)
  have BB2 := Lib.hid (bOn BB.out hb)
  have HVR2 := Lib.hid (HV.out.below hb)
  clear hV hb HV KN BB k0 k1 k2
  go_wp2_with fail
  refine (vEncodeV HV2.out n5_in n5_few.small n5_enc).mono ?_
  rintro ev w3 ⟨bv, er, rfl, hu, hf, hb⟩
  obtain rfl := FaultV.none hf
  obtain ⟨bq, bc, rfl⟩ := hu.shape
  have HU3 := Lib.hid hu
  have KN3 := Lib.hid (KN2.out.keep hb)
  have BB3 := Lib.hid (bOn BB2.out hb)
  have HVR3 := Lib.hid (HVR2.out.below hb)
  clear hu hf hb HV2 KN2 BB2 HVR2
  go_wp2_with fail
  refine (vParseV HU3.out (fileN_in8 (by rw [n5_ok]; rfl)) n5_parse).mono ?_
  rintro ev w4 ⟨nv, er, rfl, hV, hf, hb⟩
  obtain rfl := FaultV.none hf
  obtain ⟨vq2, aq2, tq2, vc2, ac2, tc2, rfl, hs⟩ := hV.shape
  have HU4 := Lib.hid (HU3.out.below hb)
  have KN4 := Lib.hid (KN3.out.keep hb)
  have BB4 := Lib.hid (bOn BB3.out hb)
  have HVR4 := Lib.hid (HVR3.out.below hb)
  have HV4 := Lib.hid hV
  clear hV hf hb hs HU3 KN3 BB3 HVR3
  go_upto_region 4 with fail
  obtain ⟨P4, hP4⟩ : ∃ p, w4.heap.size = p := ⟨_, rfl⟩
  obtain ⟨W4, hW4⟩ := named (w4.alloc (.cells #[.slice vq2 n5.v.length vc2, .slice aq2 n5.a.length ac2, .slice tq2 n5.t.length tc2] 28))
  have hb4 : Below w4.heap.size w4 W4 := by rw [hW4]; exact below_new8 _
  have KP4 : Hid (Blk W4 P4 #[.slice vq2 n5.v.length vc2, .slice aq2 n5.a.length ac2, .slice tq2 n5.t.length tc2] 28) := by rw [hW4]; exact Lib.hid (Blk.new _ _ _ _ hP4)
  have HU5 := Lib.hid (HU4.out.below hb4)
  have KN5 := Lib.hid (KN4.out.keep hb4)
  have BB5 := Lib.hid (bOn BB4.out hb4)
  have HVR5 := Lib.hid (HVR4.out.below hb4)
  have HV5 := Lib.hid (HV4.out.below hb4)
  rw [← hW4, hP4]
  clear hW4 hP4 hb4 HU4 KN4 BB4 HVR4 HV4
  have kc := fun (w : World) (C : Array Value) (n c : Nat) => Lib.run_convert_bytes_const (P := Tryz.prog) w 22 5 C n c Tryz.underlying22 Tryz.underlying5
  go_wp2_with fail
  have hb6 : Below W4.heap.size W4 (W4.alloc (.cells #[.int .u8 82, .int .u8 78, .int .u8 68, .int .u8 49, .int .u8 0, .int .u8 0, .int .u8 0] 5 (7, 8))) := below_new8 _
  refine (vParseV (B := [82, 78, 68, 49, 0, 0, 0]) (u := .slice (some ⟨W4.heap.size, 0, none⟩) 7 7) ⟨_, U8at.marked W4 [82, 78, 68, 49, 0, 0, 0] (by simp) _ rfl (7, 8)⟩ (by intro x hx; simp at hx; omega) short_parse).mono ?_
  rintro ev w5 ⟨nv, fv, rfl, hV, hf, hb⟩
  obtain ⟨eq1, eq2, eq3, ec1, ec2, ec3, rfl, hs⟩ := hV.shape
  obtain ⟨fb, rfl⟩ := flt_shape hf (by simp)
  have hb7 := hb6.trans (hb.mono hb6.size)
  have HF6 := Lib.hid hf
  have KP6 := Lib.hid (KP4.out.keep hb7)
  have HU6 := Lib.hid (HU5.out.below hb7)
  have KN6 := Lib.hid (KN5.out.keep hb7)
  have BB6 := Lib.hid (bOn BB5.out hb7)
  have HVR6 := Lib.hid (HVR5.out.below hb7)
  have HV6 := Lib.hid (HV5.out.below hb7)
  clear hV hs hf hb hb6 hb7 KP4 HU5 KN5 BB5 HVR5 HV5 kc
  go_upto_region 5 with fail
  obtain ⟨W6, hW6⟩ : ∃ W, w5.alloc (.cells #[.slice eq1 emptyN.v.length ec1, .slice eq2 emptyN.a.length ec2, .slice eq3 emptyN.t.length ec3] 28) = W := ⟨_, rfl⟩
  have hb6 : Below w5.heap.size w5 W6 := by rw [← hW6]; exact below_new8 _
  have HF7 := Lib.hid (FaultV.below hb6 HF6.out)
  have KP7 := Lib.hid (KP6.out.keep hb6)
  have HU7 := Lib.hid (HU6.out.below hb6)
  have KN7 := Lib.hid (KN6.out.keep hb6)
  have BB7 := Lib.hid (bOn BB6.out hb6)
  have HVR7 := Lib.hid (HVR6.out.below hb6)
  have HV7 := Lib.hid (HV6.out.below hb6)
  first | rw [hW6] | (simp only [emptyN, List.length_nil] at hW6; rw [hW6])
  clear hW6 hb6 HF6 KP6 HU6 KN6 BB6 HVR6 HV6
  go_wp2_with fail
  refine (vUnhex_ff _).mono ?_
  rintro ev w7 ⟨hv, er, rfl, hh, hf, hb⟩
  obtain rfl := FaultV.none hf
  have HH := Lib.hid hh
  have HF8 := Lib.hid (FaultV.below hb HF7.out)
  have KP8 := Lib.hid (KP7.out.keep hb)
  have HU8 := Lib.hid (HU7.out.below hb)
  have KN8 := Lib.hid (KN7.out.keep hb)
  have BB8 := Lib.hid (bOn BB7.out hb)
  have HVR8 := Lib.hid (HVR7.out.below hb)
  have HV8 := Lib.hid (HV7.out.below hb)
  clear hh hf hb HF7 KP7 HU7 KN7 BB7 HVR7 HV7
  go_wp2_with fail
  refine (vUnhex_f _).mono ?_
  rintro ev W ⟨hv2, er, rfl, hh2, hf, hb⟩
  obtain ⟨gb, rfl⟩ := flt_shape hf (by simp)
  obtain ⟨hq, hc, rfl⟩ := (HH.out).shape
  have HG := Lib.hid (HG0.out.keep (bOn BB8.out hb))
  have HH9 := Lib.hid (HH.out.below hb)
  have HF9 := Lib.hid (FaultV.below hb HF8.out)
  have HE9 := Lib.hid hf
  have KP9 := Lib.hid (KP8.out.keep hb)
  have HOB := Lib.hid (OldB.of (HU8.out.below hb))
  have KN9 := Lib.hid (KN8.out.keep hb)
  have BB9 := Lib.hid (bOn BB8.out hb)
  have HVR9 := Lib.hid (HVR8.out.below hb)
  have HV9 := Lib.hid (HV8.out.below hb)
  have hbc := HOB.out.cap.2
  rw [n5_len] at hbc
  have h4c : (4 : Int) ≤ (bc : Int) := by omega
  have h16c : (16 : Int) ≤ (bc : Int) := by omega
  have h4n : ¬ bc = 4 := by omega
  have hw16 : IntKind.i64.wrap 16 = 16 := by decide
  have hmv : moved bq bc 4 = Option.map (fun x : Addr => ({ block := x.block, off := x.off + 4 } : Addr)) bq := by unfold moved; rw [if_neg h4n]; rfl
  have HMV := Lib.hid hmv
  clear hmv
  have h20 : (fileN n5).length = 20 := n5_len
  clear hh2 hf hb HH HF8 KP8 HU8 KN8 BB8 HVR8 HV8 HG0
  go_upto_region 7 with fail
  have hGS : Grows (fun w' => Below W.heap.size W w') := Grows.below W
  refine' wp_growL _ (fun w' => Below W.heap.size W w') [[], [0], [1], [2], [2, 3], [2, 4], [2, 5], [6], [7], [7, 8], [7, 9], [7, 10], [7, 11], [12], [13], [13], [13, 15], [13, 16], [13, 14, 17], [13, 18], [13, 19], [13, 20], [21], [22], [22, 23], [22, 24], [25], [26], [26, 27], [26], [26, 28, 29], [26, 30], [31], [32], [32], [32, 33, 34], [32, 35], [36], [37], [37, 38], [37, 39], [40], [41], [41, 42], [41, 43], [41, 44], [45], [46], [46, 47], [46, 48], [46, 49], [50], [51], [51], [51, 52, 53], [51, 54], [55]] (Fact.lit _ :: Fact.lit _ :: Fact.lit _ :: Fact.lit _ :: Fact.lit _ :: Fact.lit _ :: Fact.lit _ :: Fact.lit _ :: Fact.lit _ :: Fact.lit _ :: Fact.lit _ :: Fact.lit _ :: Fact.lit _ :: Fact.lit _ :: Fact.lit _ :: Fact.lit _ :: Fact.lit _ :: Fact.lit _ :: Fact.lit _ :: Fact.lit _ :: Fact.lit _ :: Fact.lit _ :: Fact.lit _ :: Fact.lit _ :: Fact.lit _ :: Fact.lit _ :: Fact.lit _ :: Fact.lit _ :: Fact.prop _ _ :: Fact.lit _ :: Fact.lit _ :: Fact.lit _ :: Fact.lit _ :: Fact.lit _ :: Fact.prop _ _ :: Fact.lit _ :: Fact.lit _ :: Fact.lit _ :: Fact.lit _ :: Fact.lit _ :: Fact.lit _ :: Fact.lit _ :: Fact.lit _ :: Fact.lit _ :: Fact.lit _ :: Fact.lit _ :: Fact.lit _ :: Fact.lit _ :: Fact.lit _ :: Fact.lit _ :: Fact.lit _ :: Fact.lit _ :: Fact.lit _ :: Fact.prop _ _ :: Fact.lit _ :: Fact.lit _ :: Fact.lit _ :: []) (by kernel_rfl) rfl (by kernel_rfl) (Below.refl _ _).drew ?seqk5
  case' seqk5 => skip
  iterate 10 ((first | (apply grow_skip; (case hf => rfl); (case hw => rfl)) | (apply grow_lit; (case hf => rfl); (case hw => rfl); (case hrun => (intro w' hS H; clear H; (obtain ⟨c0, c1, c2, -, -, -⟩ := (KP9.out.keep hS).o3); (obtain ⟨d0, d1, d2, -, -, -⟩ := (KN9.out.keep hS).o3); clear hS; go_simp; first | done | exact rfl)))); (case hc => (simp only [Act.put, List.setIfInBounds_toArray, List.set_cons_zero, List.set_cons_succ]; first | done | exact rfl)); (try (case hj => rfl)))
  (refine' grow_lit rfl ?wtL1 ?runL1 ?putL1 ?nextL1; (case wtL1 => rfl); (case runL1 => (intro w' hS H; (have q := text_of (v := .slice bq 4 bc) (l := (fileN n5).take 4) ((HOB.out.keep hS).take 4 (by rw [n5_len]; omega)) n5_head); clear H hS; go_simp; first | done | exact rfl)); (case putL1 => (simp only [Act.put, List.setIfInBounds_toArray, List.set_cons_zero, List.set_cons_succ]; first | done | exact rfl)); (case' nextL1 => skip))
  iterate 7 ((first | (apply grow_skip; (case hf => rfl); (case hw => rfl)) | (apply grow_lit; (case hf => rfl); (case hw => rfl); (case hrun => (intro w' hS H; clear H; (obtain ⟨c0, c1, c2, -, -, -⟩ := (KP9.out.keep hS).o3); (obtain ⟨d0, d1, d2, -, -, -⟩ := (KN9.out.keep hS).o3); clear hS; go_simp; first | done | exact rfl)))); (case hc => (simp only [Act.put, List.setIfInBounds_toArray, List.set_cons_zero, List.set_cons_succ]; first | done | exact rfl)); (try (case hj => rfl)))
  (refine' grow_lit rfl ?wtL2 ?runL2 ?putL2 ?nextL2; (case wtL2 => rfl); (case runL2 => (intro w' hS H; clear H hS; go_simp; first | done | exact rfl)); (case putL2 => (simp only [Act.put, List.setIfInBounds_toArray, List.set_cons_zero, List.set_cons_succ]; first | done | exact rfl)); (case' nextL2 => skip))
  (refine' grow_lit rfl ?wtL3 ?runL3 ?putL3 ?nextL3; (case wtL3 => rfl); (case runL3 => (intro w' hS H; (have q := text_of (v := .slice (Option.map (fun x : Addr => ({ block := x.block, off := x.off + 4 } : Addr)) bq) 12 (bc - 4)) (l := ((fileN n5).drop 4).take 12) (by rw [← HMV.out]; exact (HOB.out.keep hS).part 4 12 (by rw [n5_len]; omega)) n5_mid); clear H hS; go_simp; first | done | exact rfl)); (case putL3 => (simp only [Act.put, List.setIfInBounds_toArray, List.set_cons_zero, List.set_cons_succ]; first | done | exact rfl)); (case' nextL3 => skip))
  iterate 8 ((first | (apply grow_skip; (case hf => rfl); (case hw => rfl)) | (apply grow_lit; (case hf => rfl); (case hw => rfl); (case hrun => (intro w' hS H; clear H; (obtain ⟨c0, c1, c2, -, -, -⟩ := (KP9.out.keep hS).o3); (obtain ⟨d0, d1, d2, -, -, -⟩ := (KN9.out.keep hS).o3); clear hS; go_simp; first | done | exact rfl)))); (case hc => (simp only [Act.put, List.setIfInBounds_toArray, List.set_cons_zero, List.set_cons_succ]; first | done | exact rfl)); (try (case hj => rfl)))
  (refine' grow_callP (p := fun v w => NetV w v n5) (hp := fun v w w' h hb => h.below hb) rfl Tryz.func13 (by kernel_rfl) rfl hGS rfl ?wt15 ?run15 ?put15 ?next15; (case wt15 => rfl); (case run15 => (intro w' hS H; exact vOf (HV9.out.below hS) (by decide) (by decide) (by decide) (by decide))); (case put15 => (intro v; simp only [Act.put, List.setIfInBounds_toArray, List.set_cons_zero, List.set_cons_succ]; first | done | exact rfl)); (case' next15 => intro v28))
  iterate 1 ((first | (apply grow_skip; (case hf => rfl); (case hw => rfl)) | (apply grow_lit; (case hf => rfl); (case hw => rfl); (case hrun => (intro w' hS H; clear H; (obtain ⟨c0, c1, c2, -, -, -⟩ := (KP9.out.keep hS).o3); (obtain ⟨d0, d1, d2, -, -, -⟩ := (KN9.out.keep hS).o3); clear hS; go_simp; first | done | exact rfl)))); (case hc => (simp only [Act.put, List.setIfInBounds_toArray, List.set_cons_zero, List.set_cons_succ]; first | done | exact rfl)); (try (case hj => rfl)))
  (refine' grow_call (u := .bool true) rfl Tryz.func12 (by kernel_rfl) rfl hGS rfl ?wt16 ?run16 ?put16 ?next16; (case wt16 => rfl); (case run16 => (intro w' hS H; (have h28 : NetV w' v28 n5 := H 28 (by decide)); exact rvsame h28 (HVR9.out.below hS) (by decide))); (case put16 => (simp only [Act.put, List.setIfInBounds_toArray, List.set_cons_zero, List.set_cons_succ]; first | done | exact rfl)); (case' next16 => skip))
  iterate 3 ((first | (apply grow_skip; (case hf => rfl); (case hw => rfl)) | (apply grow_lit; (case hf => rfl); (case hw => rfl); (case hrun => (intro w' hS H; clear H; (obtain ⟨c0, c1, c2, -, -, -⟩ := (KP9.out.keep hS).o3); (obtain ⟨d0, d1, d2, -, -, -⟩ := (KN9.out.keep hS).o3); clear hS; go_simp; first | done | exact rfl)))); (case hc => (simp only [Act.put, List.setIfInBounds_toArray, List.set_cons_zero, List.set_cons_succ]; first | done | exact rfl)); (try (case hj => rfl)))
  (refine' grow_callP (p := fun v w => WrongV w v [(fileB, 0)] 3) (hp := fun v w w' h hb => WrongV.below hb h) rfl Tryz.func19 (by kernel_rfl) rfl hGS rfl ?wt17 ?run17 ?put17 ?next17; (case wt17 => rfl); (case run17 => (intro w' hS H; exact (at_post fileB 0 3 w').mono (fun e w2 ⟨v, h1, h2, h3⟩ => ⟨v, h1, h2, h3⟩))); (case put17 => (intro v; simp only [Act.put, List.setIfInBounds_toArray, List.set_cons_zero, List.set_cons_succ]; first | done | exact rfl)); (case' next17 => intro v34))
  (refine' grow_call (u := .bool true) rfl Tryz.func11 (by kernel_rfl) rfl hGS rfl ?wt18 ?run18 ?put18 ?next18; (case wt18 => rfl); (case run18 => (intro w' hS H; exact tells_post _ _ [(fileB, 0)] 3 w' (HG.out.keep hS) (FaultV.below hS HF9.out) (H 34 (by decide)) (Or.inr (by simp)))); (case put18 => (simp only [Act.put, List.setIfInBounds_toArray, List.set_cons_zero, List.set_cons_succ]; first | done | exact rfl)); (case' next18 => skip))
  iterate 7 ((first | (apply grow_skip; (case hf => rfl); (case hw => rfl)) | (apply grow_lit; (case hf => rfl); (case hw => rfl); (case hrun => (intro w' hS H; clear H; (obtain ⟨c0, c1, c2, -, -, -⟩ := (KP9.out.keep hS).o3); (obtain ⟨d0, d1, d2, -, -, -⟩ := (KN9.out.keep hS).o3); clear hS; go_simp; first | done | exact rfl)))); (case hc => (simp only [Act.put, List.setIfInBounds_toArray, List.set_cons_zero, List.set_cons_succ]; first | done | exact rfl)); (try (case hj => rfl)))
  (refine' grow_lit rfl ?wtL4 ?runL4 ?putL4 ?nextL4; (case wtL4 => rfl); (case runL4 => (intro w' hS H; (have q := text_of (v := .slice hq 2 hc) (HH9.out.below hS) hex_txt); clear H hS; go_simp; first | done | exact rfl)); (case putL4 => (simp only [Act.put, List.setIfInBounds_toArray, List.set_cons_zero, List.set_cons_succ]; first | done | exact rfl)); (case' nextL4 => skip))
  iterate 4 ((first | (apply grow_skip; (case hf => rfl); (case hw => rfl)) | (apply grow_lit; (case hf => rfl); (case hw => rfl); (case hrun => (intro w' hS H; clear H; (obtain ⟨c0, c1, c2, -, -, -⟩ := (KP9.out.keep hS).o3); (obtain ⟨d0, d1, d2, -, -, -⟩ := (KN9.out.keep hS).o3); clear hS; go_simp; first | done | exact rfl)))); (case hc => (simp only [Act.put, List.setIfInBounds_toArray, List.set_cons_zero, List.set_cons_succ]; first | done | exact rfl)); (try (case hj => rfl)))
  (refine' grow_call (u := .string ⟨#[48, 97, 102, 102]⟩) rfl Tryz.func22 (by kernel_rfl) rfl hGS rfl ?wtM5known48 ?runM5known48 ?putM5known48 ?nextM5known48; (case wtM5known48 => rfl); (case runM5known48 => (intro w' hS H; exact vHex_ff (HH9.out.below hS))); (case putM5known48 => (simp only [Act.put, List.setIfInBounds_toArray, List.set_cons_zero, List.set_cons_succ]; first | done | exact rfl)); (case' nextM5known48 => skip))
  iterate 4 ((first | (apply grow_skip; (case hf => rfl); (case hw => rfl)) | (apply grow_lit; (case hf => rfl); (case hw => rfl); (case hrun => (intro w' hS H; clear H; (obtain ⟨c0, c1, c2, -, -, -⟩ := (KP9.out.keep hS).o3); (obtain ⟨d0, d1, d2, -, -, -⟩ := (KN9.out.keep hS).o3); clear hS; go_simp; first | done | exact rfl)))); (case hc => (simp only [Act.put, List.setIfInBounds_toArray, List.set_cons_zero, List.set_cons_succ]; first | done | exact rfl)); (try (case hj => rfl)))
  (refine' grow_callP (p := fun v w => WrongV w v [(fileB, 2)] 2) (hp := fun v w w' h hb => WrongV.below hb h) rfl Tryz.func19 (by kernel_rfl) rfl hGS rfl ?wt19 ?run19 ?put19 ?next19; (case wt19 => rfl); (case run19 => (intro w' hS H; exact (at_post fileB 2 2 w').mono (fun e w2 ⟨v, h1, h2, h3⟩ => ⟨v, h1, h2, h3⟩))); (case put19 => (intro v; simp only [Act.put, List.setIfInBounds_toArray, List.set_cons_zero, List.set_cons_succ]; first | done | exact rfl)); (case' next19 => intro v53))
  (refine' grow_call (u := .bool true) rfl Tryz.func11 (by kernel_rfl) rfl hGS rfl ?wt20 ?run20 ?put20 ?next20; (case wt20 => rfl); (case run20 => (intro w' hS H; exact tells_post _ _ [(fileB, 2)] 2 w' (HG.out.keep hS) (FaultV.below hS HE9.out) (H 53 (by decide)) (Or.inr (by simp)))); (case put20 => (simp only [Act.put, List.setIfInBounds_toArray, List.set_cons_zero, List.set_cons_succ]; first | done | exact rfl)); (case' next20 => skip))
  iterate 1 ((first | (apply grow_skip; (case hf => rfl); (case hw => rfl)) | (apply grow_lit; (case hf => rfl); (case hw => rfl); (case hrun => (intro w' hS H; clear H; (obtain ⟨c0, c1, c2, -, -, -⟩ := (KP9.out.keep hS).o3); (obtain ⟨d0, d1, d2, -, -, -⟩ := (KN9.out.keep hS).o3); clear hS; go_simp; first | done | exact rfl)))); (case hc => (simp only [Act.put, List.setIfInBounds_toArray, List.set_cons_zero, List.set_cons_succ]; first | done | exact rfl)); (try (case hj => rfl)))
  (first | (refine' grow_skip rfl ?wt14 ?put14 ?next14; (case wt14 => rfl)) | (refine' grow_lit rfl ?wt14 ?run14 ?put14 ?next14; (case wt14 => rfl); (case run14 => (intro w' hS H; clear H; (obtain ⟨c0, c1, c2, -, -, -⟩ := (KP9.out.keep hS).o3); (obtain ⟨d0, d1, d2, -, -, -⟩ := (KN9.out.keep hS).o3); clear hS; go_simp; first | done | exact rfl)))); (case put14 => (simp only [Act.put, List.setIfInBounds_toArray, List.set_cons_zero]; first | done | exact rfl)); (case' next14 => skip)
  intro w9 hb _
  have HF := Lib.hid (bOn BB9.out hb)
  clear hb hGS
  go_wp2_with fail
  exact bodyPost_ret (v := .bool true) (by simp [results, Tryz.results8, go_sem]) rfl ⟨rfl, HF.out⟩

end Go.Proofs.YtjapdbegfanfiaaGreatDoor
