/-
  Nets of which one thing is turned: all that a law asks of them.
-/
import Derived.Test.YtbdompngabokgaaDoorBentM
namespace Go.Proofs.YtbdompngabokgaaDoor
open Go.RowKit

/-- A net like n, but for one thing that may not be. -/
structure Bent (n m : NetD) (F : Flt) : Prop where
  small : NetSmall m
  inn : InNet m
  chk : chkN m = F
  ne : sameN n m = false
  v : m.v.length ≤ 10000
  a : m.a.length ≤ 100000
  t : m.t.length ≤ 1000
  c : ∀ t ∈ m.t, t.2.2.length ≤ 1000
section
variable {n : NetD} (hf : NetFew n) (hin : InNet n) (ok : chkN n = fltOK) (hg : NetGood n)
include hf hin
theorem bentV {k : Nat} (hk : k < n.v.length) {y : Tri} {F : Flt} (hF : chkN ⟨n.v.set k y, n.a, n.t⟩ = F) (hy : n.v[k] ≠ y)
    (hi : (-9223372036854775808 ≤ y.1 ∧ y.1 ≤ 9223372036854775807) ∧ (-9223372036854775808 ≤ y.2.1 ∧ y.2.1 ≤ 9223372036854775807) ∧ (-9223372036854775808 ≤ y.2.2 ∧ y.2.2 ≤ 9223372036854775807)) : Bent n ⟨n.v.set k y, n.a, n.t⟩ F := by
  have hs := hf.small
  have h1 := hf.v
  have h2 := hf.a
  have h3 := hf.t
  refine ⟨⟨by simpa using hs.v, hs.a, hs.t⟩, ⟨inTri_set hin.1 k hi, hin.2.1, hin.2.2⟩, hF, decide_eq_false (fun e => set_ne hk hy e.1), by simp; omega, by show n.a.length ≤ _; omega, by show n.t.length ≤ _; omega, fun t ht => by have := hf.c t ht; omega⟩
theorem bentA {k : Nat} (hk : k < n.a.length) {y : Tri} {F : Flt} (hF : chkN ⟨n.v, n.a.set k y, n.t⟩ = F) (hy : n.a[k] ≠ y)
    (hi : (-9223372036854775808 ≤ y.1 ∧ y.1 ≤ 9223372036854775807) ∧ (-9223372036854775808 ≤ y.2.1 ∧ y.2.1 ≤ 9223372036854775807) ∧ (-9223372036854775808 ≤ y.2.2 ∧ y.2.2 ≤ 9223372036854775807)) : Bent n ⟨n.v, n.a.set k y, n.t⟩ F := by
  have hs := hf.small
  have h1 := hf.v
  have h2 := hf.a
  have h3 := hf.t
  refine ⟨⟨hs.v, by simpa using hs.a, hs.t⟩, ⟨hin.1, inTri_set hin.2.1 k hi, hin.2.2⟩, hF, decide_eq_false (fun e => set_ne hk hy e.2.1), by show n.v.length ≤ _; omega, by simp; omega, by show n.t.length ≤ _; omega, fun t ht => by have := hf.c t ht; omega⟩
include ok hg
theorem bentI0 {k : Nat} (hk : k < n.v.length) {x : Int} (hx : 1048576 < x) (hx2 : x ≤ 9223372036854775807) : Bent n ⟨n.v.set k (x, n.v[k].2), n.a, n.t⟩ ([(vertB, (k : Int))], 1) := by
  have hi := hin.1 n.v[k] (List.getElem_mem _)
  refine bentV hf hin hk (bent0 hf.small (chk_parts hf.small ok) hk hx) (fun e => ?_) ⟨⟨by simp only []; omega, hx2⟩, hi.2.1, hi.2.2⟩
  have h1 := (hg.verts k hk).1
  rw [e] at h1
  simp [coordB] at h1
  omega
theorem bentI1 {k : Nat} (hk : k < n.v.length) {x : Int} (hx : n.t.length ≤ x) (hx2 : x ≤ 9223372036854775807) : Bent n ⟨n.v.set k (n.v[k].1, n.v[k].2.1, x), n.a, n.t⟩ ([(vertB, (k : Int))], 5) := by
  have hi := hin.1 n.v[k] (List.getElem_mem _)
  refine bentV hf hin hk (bent1 hf.small (chk_parts hf.small ok) hg hk hx) (fun e => ?_) ⟨hi.1, hi.2.1, ⟨by simp only []; omega, hx2⟩⟩
  have h1 := (hg.verts k hk).2.2.2
  rw [e] at h1
  simp only [] at h1
  omega
theorem bentI2 {k : Nat} (hk : k < n.a.length) {x : Int} (hx : x < 0) (hx2 : -9223372036854775808 ≤ x) : Bent n ⟨n.v, n.a.set k (n.a[k].1, x, n.a[k].2.2), n.t⟩ ([(arcB, (k : Int))], 5) := by
  have hi := hin.2.1 n.a[k] (List.getElem_mem _)
  refine bentA hf hin hk (bent2 hf.small (chk_parts hf.small ok) hg hk hx) (fun e => ?_) ⟨hi.1, ⟨hx2, by simp only []; omega⟩, hi.2.2⟩
  have h1 := (hg.arcs k hk).2.2.1
  rw [e] at h1
  simp only [] at h1
  omega
theorem bentI3 {k : Nat} (hk : k < n.a.length) {x : Int} (hx : x < 0) (hx2 : -9223372036854775808 ≤ x) : Bent n ⟨n.v, n.a.set k (n.a[k].1, n.a[k].2.1, x), n.t⟩ ([(arcB, (k : Int))], 8) := by
  have hi := hin.2.1 n.a[k] (List.getElem_mem _)
  refine bentA hf hin hk (bent3 hf.small (chk_parts hf.small ok) hg hk hx) (fun e => ?_) ⟨hi.1, hi.2.1, ⟨hx2, by simp only []; omega⟩⟩
  have h1 := wgt_in (hg.arcs k hk).2.2.2.2
  rw [e] at h1
  simp only [] at h1
  omega
omit hg
theorem bentI4 {x : Int} (hx : 16 < x) (hx2 : x ≤ 9223372036854775807) : Bent n ⟨n.v, n.a, n.t ++ [(1, x, [])]⟩ ([(typeB, (n.t.length : Int)), (turnB, 1)], 1) := by
  have hs := hf.small
  have h1 := hf.v
  have h2 := hf.a
  have h3 := hf.t
  refine ⟨⟨hs.v, hs.a, by simp; omega⟩, ⟨hin.1, hin.2.1, fun t ht => ?_⟩, bent4 hs (chk_parts hs ok) (by omega) hx, decide_eq_false (fun e => ?_), by show n.v.length ≤ _; omega, by show n.a.length ≤ _; omega, by simp; omega, fun t ht => ?_⟩
  · rcases List.mem_append.1 ht with h | h
    · exact hin.2.2 t h
    · rw [List.mem_singleton.1 h]
      exact ⟨by simp, ⟨by simp only []; omega, hx2⟩, fun y hy => by cases hy⟩
  · have := congrArg List.length e.2.2
    simp at this
  · rcases List.mem_append.1 ht with h | h
    · have := hf.c t h; omega
    · rw [List.mem_singleton.1 h]; simp
include hg
theorem bentI5 {k : Nat} (hk : k < n.t.length) (h0 : ¬ n.t[k].2.1 = 0) (h16 : n.t[k].1 + 1 ≤ 16) : Bent n ⟨n.v, n.a, n.t.set k (n.t[k].1 + 1, n.t[k].2)⟩ ([(typeB, (k : Int)), (turnB, 2)], 9) := by
  have hs := hf.small
  have h1 := hf.v
  have h2 := hf.a
  have h3 := hf.t
  have hi := hin.2.2 n.t[k] (List.getElem_mem _)
  refine ⟨⟨hs.v, hs.a, by simpa using hs.t⟩, ⟨hin.1, hin.2.1, inTab_set hin.2.2 k ⟨⟨by simp only []; omega, by simp only []; omega⟩, hi.2.1, hi.2.2⟩⟩, bent5 hs (chk_parts hs ok) hg hk h0 h16, decide_eq_false (fun e => set_ne hk (fun e => ?_) e.2.2), by show n.v.length ≤ _; omega, by show n.a.length ≤ _; omega, by simp; omega, fun t ht => ?_⟩
  · have := congrArg Prod.fst e
    simp only [] at this
    omega
  · rcases List.mem_or_eq_of_mem_set ht with h | rfl
    · have := hf.c t h; omega
    · have := hf.c n.t[k] (List.getElem_mem _); simp only []; omega
end

end Go.Proofs.YtbdompngabokgaaDoor
