/-
  Which errors a file may tell whose beginning and sum are right. Plain maths.
-/
import Derived.Test.YtjapdbegfanfiaaGreatDoorV5
namespace Go.Proofs.YtjapdbegfanfiaaGreatDoor

/-- What a read may find wrong. -/
def ErS (e : Int) : Prop := e = 0 ∨ e = 2 ∨ e = 3 ∨ e = 8
theorem rdU_er {l : List Int} {M : Int} {s : RSt} (h : ErS s.2) : ErS (rdU l M s).2.2 := by
  unfold rdU uR
  split
  · split
    · split
      · exact Or.inr (Or.inr (Or.inr rfl))
      · exact Or.inl rfl
    · rcases rd_err (l.drop s.1) with h1 | h1 | h1
      · exact Or.inl h1
      · exact Or.inr (Or.inl h1)
      · exact Or.inr (Or.inr (Or.inl h1))
  · exact h
theorem rdI_er {l : List Int} {M : Int} {s : RSt} (h : ErS s.2) : ErS (rdI l M s).2.2 := by
  unfold rdI iR
  split
  · split
    · split
      · exact Or.inr (Or.inr (Or.inr rfl))
      · exact Or.inl rfl
    · rcases rd_err (l.drop s.1) with h1 | h1 | h1
      · exact Or.inl h1
      · exact Or.inr (Or.inl h1)
      · exact Or.inr (Or.inr (Or.inl h1))
  · exact h
theorem goK_inv {σ α : Type} {er : σ → Int} {f : σ → α × σ} {s : σ} (I : σ → Prop) (h0 : I s) (hf : ∀ s, I s → I (f s).2) : ∀ k, I (goK er f s k).2
  | 0 => h0
  | k + 1 => by
    have ih := goK_inv (er := er) (f := f) I h0 hf k
    show I (if er (goK er f s k).2 = 0 then _ else goK er f s k).2
    split
    · exact hf _ ih
    · exact ih
theorem rdC_er {l : List Int} {s : RSt} (h : ErS s.2) : ErS (rdC l s).2.2 := rdU_er h
theorem rdT_er {l : List Int} {s : RSt} (h : ErS s.2) : ErS (rdT l s).2.2 := goK_inv (fun s : RSt => ErS s.2) (rdU_er (rdU_er h)) (fun _ h => rdC_er h) _
theorem rdV_er {l : List Int} {s : (Int × Int) × RSt} (h : ErS s.2.2) : ErS (rdV l s).2.2.2 := rdU_er (rdI_er (rdI_er h))
theorem rdA_er {l : List Int} {s : RSt} (h : ErS s.2) : ErS (rdA l s).2.2 := rdC_er (rdU_er (rdU_er h))
theorem rdAs_er (l : List Int) : ErS (rdAs l).2.2 := by
  have hK : ErS (rdK l).2.2 := rdU_er (rdU_er (rdU_er (Or.inl rfl)))
  have hT : ErS (rdTs l).2.2 := goK_inv (fun s : RSt => ErS s.2) hK (fun _ h => rdT_er h) _
  have hV : ErS (rdVs l).2.2.2 := goK_inv (fun s : (Int × Int) × RSt => ErS s.2.2) hT (fun _ h => rdV_er h) _
  exact goK_inv (fun s : RSt => ErS s.2) hV (fun _ h => rdA_er h) _
theorem firstBad_inv {α : Type} (P : Flt → Prop) (h0 : P fltOK) (f : Int → α → Flt) (hf : ∀ k x, P (f k x)) : ∀ (l : List α) (k : Int), P (firstBad f k l)
  | [], _ => h0
  | x :: r, k => by
    unfold firstBad
    split
    · exact firstBad_inv P h0 f hf r (k + 1)
    · exact hf k x
theorem badAt_ne : ∀ (l : List Int) (k : Int), (badAt k l).2 ≠ 11
  | [], _ => by show fltOK.2 ≠ 11; decide
  | x :: r, k => by
    unfold badAt
    split
    · simp
    · exact badAt_ne r (k + 1)
theorem chkT_ne (I O : Int) (l : List Int) : (chkT I O l).2 ≠ 11 := by
  unfold chkT
  repeat' split
  all_goals first
    | exact badAt_ne _ _
    | simp
theorem chkN_ne (n : NetD) : (chkN n).2 ≠ 11 := by
  have h0 : fltOK.2 ≠ 11 := by decide
  have hT := firstBad_inv (fun F => F.2 ≠ 11) h0 typeFlt (fun k t => by
    unfold typeFlt
    split
    · exact h0
    · exact chkT_ne _ _ _) n.t 0
  have hV := firstBad_inv (fun F => F.2 ≠ 11) h0 (vertFlt n.t.length) (fun k t => by
    unfold vertFlt
    repeat' split
    all_goals first
      | exact h0
      | simp) n.v 0
  have hA := firstBad_inv (fun F => F.2 ≠ 11) h0 (arcFlt n.v.length) (fun k t => by
    unfold arcFlt
    repeat' split
    all_goals first
      | exact h0
      | simp) n.a 0
  have hD := firstBad_inv (fun F => F.2 ≠ 11) h0 (degFlt n) (fun k t => by
    unfold degFlt
    repeat' split
    all_goals first
      | exact h0
      | simp) n.v 0
  unfold chkN
  repeat' split
  all_goals first
    | exact hT
    | exact hV
    | exact hA
    | exact hD
    | simp
/-- Where beginning and sum are right, it is not the sum that is wrong. -/
theorem inner_ne (l : List Int) : (parseF (markL ++ l ++ sumB (markL ++ l))).2.2 ≠ 11 := by
  obtain ⟨b, hb⟩ : ∃ b, markL ++ l = b := ⟨_, rfl⟩
  rw [hb]
  have h4 : (sumB b).length = 4 := sumB_len b
  have hlen : (b ++ sumB b).length - 4 = b.length := by rw [List.length_append]; omega
  have h1 : (b ++ sumB b).take ((b ++ sumB b).length - 4) = b := by rw [hlen]; exact List.take_left' rfl
  have h2 : (b ++ sumB b).drop ((b ++ sumB b).length - 4) = sumB b := by rw [hlen]; exact List.drop_left' rfl
  unfold parseF
  rw [h1, h2]
  have he := rdAs_er (b.drop 4)
  by_cases c1 : 65536 < (b ++ sumB b).length
  · rw [if_pos c1]; simp
  rw [if_neg c1]
  by_cases c2 : (b ++ sumB b).length < 8
  · rw [if_pos c2]; simp
  rw [if_neg c2, if_neg (by simp)]
  by_cases c3 : (b ++ sumB b).take 4 ≠ markL
  · rw [if_pos c3]; simp
  rw [if_neg c3]
  by_cases c4 : (rdAs (b.drop 4)).2.2 ≠ 0
  · rw [if_pos c4]
    show (rdAs (b.drop 4)).2.2 ≠ 11
    rcases he with e | e | e | e <;> omega
  rw [if_neg c4]
  by_cases c5 : (rdAs (b.drop 4)).2.1 < (b.drop 4).length
  · rw [if_pos c5]; simp
  rw [if_neg c5]
  by_cases c6 : (chkN (rdN (b.drop 4))).2 ≠ 0
  · rw [if_pos c6]; exact chkN_ne _
  · rw [if_neg c6]; show fltOK.2 ≠ 11; decide

end Go.Proofs.YtjapdbegfanfiaaGreatDoor
