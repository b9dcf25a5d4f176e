/-
  A graph and its twin, side by side; a row of arcs whose costs are all written.
-/
import Derived.Test.YtgehjkcjpbdoaaaDoorNeOff
import Derived.Test.YtgehjkcjpbdoaaaDoorTo3O
namespace Go.Proofs.YtgehjkcjpbdoaaaDoor
open Go.RowKit

theorem off4 {va vt va' vt' : Value} {b : Nat} (h : Off [va, vt] b) (k : Off [va', vt'] b) : Off [va, vt, va', vt'] b := by
  intro v hv
  simp at hv
  rcases hv with rfl | rfl | rfl | rfl
  · exact h _ (by simp)
  · exact h _ (by simp)
  · exact k _ (by simp)
  · exact k _ (by simp)
/-- A graph and its twin, made behind w0, which share no block that is written. -/
structure TwW (w0 w : World) (p p' : Nat) (m o : NetD) (va vt va' vt' : Value) : Prop where
  g : GraphAt (Off [va, vt, va', vt']) w p m va vt
  t : GraphAt (Off [va, vt, va', vt']) w p' o va' vt'
  gn : GrN m
  tn : GrN o
  b : Below w0.heap.size w0 w
  o : ∀ b, b < w0.heap.size → Off [va, vt, va', vt'] b
  dj : ∀ x ∈ [va, vt], ∀ y ∈ [va', vt'], ∀ b, x.ownBlock = some b → y.ownBlock ≠ some b
section
variable {w0 w w' : World} {p p' : Nat} {m o M : NetD} {va vt va' vt' : Value}
theorem off4a : ∀ b, Off [va, vt, va', vt'] b → Off [va, vt] b := Off.sub (fun v hv => by simp at hv; rcases hv with rfl | rfl <;> simp)
theorem off4b : ∀ b, Off [va, vt, va', vt'] b → Off [va', vt'] b := Off.sub (fun v hv => by simp at hv; rcases hv with rfl | rfl <;> simp)
theorem TwW.og (h : TwW w0 w p p' m o va vt va' vt') : ∀ b, b < w0.heap.size → Off [va, vt] b := fun b hb => off4a b (h.o b hb)
theorem TwW.ot (h : TwW w0 w p p' m o va vt va' vt') : ∀ b, b < w0.heap.size → Off [va', vt'] b := fun b hb => off4b b (h.o b hb)
theorem mut4 (h : ∀ v ∈ [va, vt], MutR w v) (k : ∀ v ∈ [va', vt'], MutR w v) : ∀ v ∈ [va, vt, va', vt'], MutR w v := by
  intro v hv
  simp at hv
  rcases hv with rfl | rfl | rfl | rfl
  · exact h _ (by simp)
  · exact h _ (by simp)
  · exact k _ (by simp)
  · exact k _ (by simp)
theorem TwW.mut (h : TwW w0 w p p' m o va vt va' vt') : ∀ v ∈ [va, vt, va', vt'], MutR w v := mut4 (graph_mut h.g) (graph_mut h.t)
theorem TwW.old (h : TwW w0 w p p' m o va vt va' vt') (hb : Below w.heap.size w w') : TwW w0 w' p p' m o va vt va' vt' := ⟨h.g.old hb, h.t.old hb, h.gn, h.tn, bOn6 h.b hb, h.o, h.dj⟩
theorem TwW.box (h : TwW w0 w p p' m o va vt va' vt') {s : Nat} {cs : Array Value} (hk : Blk w s cs 26) (hc : HdrC cs) (hs : w0.heap.size ≤ s) (k : Keep (fun b => b ≠ s) w w') : TwW w0 w' p p' m o va vt va' vt' :=
  ⟨h.g.box hk hc k, h.t.box hk hc k, h.gn, h.tn, h.b.trans (k.below (fun b hb => by omega) h.b.size), h.o, h.dj⟩
theorem TwW.keepT (h : TwW w0 w p p' m o va vt va' vt') (k : Keep (Off [va, vt]) w w') : GraphAt (Off [va, vt, va', vt']) w' p' o va' vt' :=
  h.t.keep k off4a (fun b e v hv e' => h.dj v hv va' (by simp) b e' e) (fun b e v hv e' => h.dj v hv vt' (by simp) b e' e)
theorem TwW.keepG (h : TwW w0 w p p' m o va vt va' vt') (k : Keep (Off [va', vt']) w w') : GraphAt (Off [va, vt, va', vt']) w' p m va vt :=
  h.g.keep k off4b (fun b e v hv e' => h.dj va (by simp) v hv b e e') (fun b e v hv e' => h.dj vt (by simp) v hv b e e')
theorem TwW.mutG (h : TwW w0 w p p' m o va vt va' vt') (k : Keep (Off [va, vt]) w w') (hm : ∀ v ∈ [va, vt], MutR w' v) : ∀ v ∈ [va, vt, va', vt'], MutR w' v := mut4 hm (graph_mut (h.keepT k))
theorem TwW.mutT (h : TwW w0 w p p' m o va vt va' vt') (k : Keep (Off [va', vt']) w w') (hm : ∀ v ∈ [va', vt'], MutR w' v) : ∀ v ∈ [va, vt, va', vt'], MutR w' v := mut4 (graph_mut (h.keepG k)) hm
theorem TwW.didG (h : TwW w0 w p p' m o va vt va' vt') (k : Keep (Off [va, vt]) w w') (hg : GraphAt (Off [va, vt, va', vt']) w' p M va vt) (hM : GrN M) (hb : Below w0.heap.size w0 w') : TwW w0 w' p p' M o va vt va' vt' := ⟨hg, h.keepT k, hM, h.tn, hb, h.o, h.dj⟩
theorem TwW.didT (h : TwW w0 w p p' m o va vt va' vt') (k : Keep (Off [va', vt']) w w') (hg : GraphAt (Off [va, vt, va', vt']) w' p' M va' vt') (hM : GrN M) (hb : Below w0.heap.size w0 w') : TwW w0 w' p p' m M va vt va' vt' := ⟨h.keepG k, hg, h.gn, hM, hb, h.o, h.dj⟩
theorem TwW.start {S : Nat} {n : NetD} (hG : GraphAt (fun b => Off [va, vt] b ∧ S ≤ b) w p n va vt) (hS : w0.heap.size ≤ S) (hb0 : Below w0.heap.size w0 w) (ha : ∀ b, va.ownBlock = some b → S ≤ b) (ht : ∀ b, vt.ownBlock = some b → S ≤ b) (hn : GrN n)
    (hT : GraphAt (fun b => Off [va, vt] b ∧ Off [va', vt'] b) w' p' n va' vt') (ha' : ∀ b, va'.ownBlock = some b → w.heap.size ≤ b) (ht' : ∀ b, vt'.ownBlock = some b → w.heap.size ≤ b) (hb : Below w.heap.size w w') : TwW w0 w' p p' n n va vt va' vt' := by
  have hz := hb0.size
  have o2 : ∀ b, b < w.heap.size → Off [va', vt'] b := fun b hlt => Off.two (fun x e => by have := ha' x e; omega) (fun x e => by have := ht' x e; omega)
  have hm := graph_mut hG
  refine ⟨(hG.both.old hb).mono (fun b h => off4 h.1.1 (o2 b h.2)), hT.mono (fun b h => off4 h.1 h.2), hn, hn, bOn6 hb0 hb, fun b hlt => off4 (Off.two (fun x e => by have := ha x e; omega) (fun x e => by have := ht x e; omega)) (o2 b (by omega)), fun x hx y hy b e e' => ?_⟩
  have h1 := (hm x hx).lt e
  exact o2 b h1 y hy e'
theorem TwW.off_new (h : TwW w0 w p p' m o va vt va' vt') {v : Value} {n : NetD} (hv : NetA (fun b => w.heap.size ≤ b) w' v n) : NetA (Off [va, vt, va', vt']) w' v n := hv.mono (fun _ hb => Go.Proofs.YtgehjkcjpbdoaaaDoor.off_new h.mut hb)
end
theorem ArcsO.at {B : Nat} {w : World} {a b c : Value} {n : NetD} (h : ArcsO B w (.agg #[a, b, c]) n) : w.ownsRow B 42 3 b n.a.length (flatT n.a) := by
  obtain ⟨uv, ua, ut, e, h⟩ := h
  injection e with e
  simp at e
  obtain ⟨-, rfl, -⟩ := e
  exact h
/-- One arc's cost is written, in a row of one's own. -/
theorem own77 {w : World} {B : Nat} {q : Option Addr} {N c : Nat} {xs : List Value} (h : w.ownsRow B 42 3 (.slice q N c) N xs) {k : Nat} (hk : k < N) :
    ∃ g, q = some ⟨g, 0, none⟩ ∧ g < w.heap.size ∧ (∃ y, w.cell? ⟨g, k * 3 + 2, none⟩ = some y) ∧ w.frozen? ⟨g, k * 3 + 2, none⟩ = false ∧
      (∃ ys, (w.setCell ⟨g, k * 3 + 2, none⟩ (.int .i64 77)).ownsRow B 42 3 (.slice q N c) N ys) ∧ Keep (Off [.slice q N c]) w (w.setCell ⟨g, k * 3 + 2, none⟩ (.int .i64 77)) := by
  obtain ⟨g, rfl, -, hg, hc, hf, ho, -⟩ := owns_put h (j := k * 3 + 2) (by omega) (.int .i64 77)
  have hl := h.1
  exact ⟨g, rfl, hg, ⟨_, hc.trans (List.getElem?_eq_getElem (by omega))⟩, hf, ⟨_, ho⟩, (Keep.refl _ _).setCell (fun hb => hb _ List.mem_cons_self rfl) _ _⟩
theorem mut1 {w : World} {B : Nat} {v : Value} {n : Nat} {xs : List Value} (h : w.ownsRow B 42 3 v n xs) : ∀ u ∈ [v], MutR w u := by
  intro u hu
  simp at hu
  subst hu
  exact ⟨_, _, _, Or.inl h⟩

end Go.Proofs.YtgehjkcjpbdoaaaDoor
