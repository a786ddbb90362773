/-
  Who waits in a line, and for how long, in plain lists. Conditions: none; no Go function is looked at here.
-/
import Derived.Test.YtephmkekgmpnpaaRow9
namespace Go.Proofs.Ytephmkekgmpnpaa

section
variable {most there : Int} {ks : Nat → Int}

/-- What a step does to the places. -/
theorem places_step (k : Nat) : (∃ _ : ks k = 1, (lineAt most there ks k).1 + (lineAt most there ks k).2.length < most ∧ lineC most (lineAt most there ks k) (ks k) = 1 ∧ (lineAt most there ks (k + 1)).2 = (lineAt most there ks k).2 ++ [(k : Int)]) ∨
    (∃ ys j, ks k = 2 ∧ (lineAt most there ks k).2 = ys ++ [j] ∧ (lineAt most there ks (k + 1)).2 = ys ∧ lineP (lineAt most there ks k) (ks k) = j) ∨
    ((lineAt most there ks (k + 1)).2 = (lineAt most there ks k).2 ∧ lineP (lineAt most there ks k) (ks k) = -1 ∧ (ks k = 1 → lineC most (lineAt most there ks k) (ks k) ≠ 1)) := by
  simp only [lineAt]
  generalize lineAt most there ks k = s
  obtain ⟨t, ps⟩ := s
  unfold lineStep lineC lineP
  by_cases k1 : ks k = 1
  · by_cases hf : t + (ps.length : Int) < most
    · left; exact ⟨k1, hf, by simp [k1, hf], by simp [k1, hf]⟩
    · right; right; simp [k1, hf]
  · by_cases k2 : ks k = 2
    · rcases List.eq_nil_or_concat ps with e | ⟨ys, j, e⟩
      · subst e
        right; right
        by_cases ht : 0 < t <;> simp [k2, ht]
      · rw [List.concat_eq_append] at e
        subst e
        right; left
        exact ⟨ys, j, k2, rfl, by simp [k2], by simp [k2]⟩
    · right; right; simp [k1, k2]

theorem places_back {k : Nat} {x : Int} (h : x ∈ (lineAt most there ks (k + 1)).2) : x ∈ (lineAt most there ks k).2 ∨ x = k := by
  rcases places_step (most := most) (there := there) (ks := ks) k with ⟨_, _, _, e⟩ | ⟨ys, j, _, e1, e2, _⟩ | ⟨e, _, _⟩
  · rw [e] at h
    simp only [List.mem_append, List.mem_singleton] at h
    exact h
  · rw [e2] at h
    rw [e1]
    exact .inl (by simp [h])
  · rw [e] at h
    exact .inl h

/-- Who waits now has waited since it came. -/
theorem places_stay {x : Int} {t : Nat} (hx : x < t) : ∀ d, x ∈ (lineAt most there ks (t + d)).2 → x ∈ (lineAt most there ks t).2
  | 0, h => h
  | d + 1, h => by
    rcases places_back (k := t + d) h with h1 | h1
    · exact places_stay hx d h1
    · omega
theorem places_since {x : Int} {t k : Nat} (hx : x < t) (ht : t ≤ k) (h : x ∈ (lineAt most there ks k).2) : x ∈ (lineAt most there ks t).2 :=
  places_stay hx (k - t) (by rwa [show t + (k - t) = k by omega])

theorem places_rise (h0 : 0 ≤ there) (h1 : there ≤ most) : ∀ k, (lineAt most there ks k).2.Pairwise (· < ·)
  | 0 => by simp [lineAt]
  | k + 1 => by
    have ih := places_rise h0 h1 k
    have ho := lineAt_ok h0 h1 ks k
    rcases places_step (most := most) (there := there) (ks := ks) k with ⟨_, _, _, e⟩ | ⟨ys, j, _, e1, e2, _⟩ | ⟨e, _, _⟩
    · rw [e, List.pairwise_append]
      exact ⟨ih, by simp, fun a ha b hb => by simp at hb; subst hb; exact (ho.places a ha).2⟩
    · rw [e2]
      rw [e1, List.pairwise_append] at ih
      exact ih.1
    · rw [e]; exact ih

/-- Who met, has waited; and is the last that came. -/
theorem met_form {k : Nat} (h : 0 ≤ lineP (lineAt most there ks k) (ks k)) : ks k = 2 ∧ ∃ ys, (lineAt most there ks k).2 = ys ++ [lineP (lineAt most there ks k) (ks k)] ∧ (lineAt most there ks (k + 1)).2 = ys := by
  rcases places_step (most := most) (there := there) (ks := ks) k with ⟨k1, _, _, _⟩ | ⟨ys, j, k2, e1, e2, e3⟩ | ⟨_, e, _⟩
  · simp [lineP, k1] at h
  · exact ⟨k2, ys, by rw [e3, e1], e2⟩
  · omega

/-- Who waits was pushed, and done. -/
theorem places_done (h0 : 0 ≤ there) (h1 : there ≤ most) {x : Int} : ∀ {k : Nat}, x ∈ (lineAt most there ks k).2 → ∃ i : Nat, x = i ∧ i < k ∧ ks i = 1 ∧ lineC most (lineAt most there ks i) (ks i) = 1
  | 0, h => by simp [lineAt] at h
  | k + 1, h => by
    have ho := lineAt_ok h0 h1 ks k
    rcases places_step (most := most) (there := there) (ks := ks) k with ⟨k1, _, hc, e⟩ | ⟨ys, j, _, e1, e2, _⟩ | ⟨e, _, _⟩
    · rw [e] at h
      simp only [List.mem_append, List.mem_singleton] at h
      rcases h with h | h
      · obtain ⟨i, a, b, c⟩ := places_done h0 h1 h
        exact ⟨i, a, by omega, c⟩
      · exact ⟨k, h, by omega, k1, hc⟩
    · rw [e2] at h
      obtain ⟨i, a, b, c⟩ := places_done h0 h1 (k := k) (x := x) (by rw [e1]; simp [h])
      exact ⟨i, a, by omega, c⟩
    · rw [e] at h
      obtain ⟨i, a, b, c⟩ := places_done h0 h1 h
      exact ⟨i, a, by omega, c⟩

/-- Who waits no more was met. -/
theorem places_gone {x : Int} {t : Nat} (ht : x ∈ (lineAt most there ks t).2) : ∀ d, x ∉ (lineAt most there ks (t + d)).2 → ∃ i, t ≤ i ∧ i < t + d ∧ lineP (lineAt most there ks i) (ks i) = x
  | 0, h => absurd ht h
  | d + 1, h => by
    by_cases hm : x ∈ (lineAt most there ks (t + d)).2
    · rcases places_step (most := most) (there := there) (ks := ks) (t + d) with ⟨_, _, _, e⟩ | ⟨ys, j, _, e1, e2, e3⟩ | ⟨e, _, _⟩
      · exact absurd (show x ∈ (lineAt most there ks (t + (d + 1))).2 by rw [show t + (d + 1) = t + d + 1 by omega, e]; simp [hm]) h
      · refine ⟨t + d, by omega, by omega, ?_⟩
        rw [show t + (d + 1) = t + d + 1 by omega, e2] at h
        rw [e1] at hm
        simp only [List.mem_append, List.mem_singleton] at hm
        rcases hm with hm | hm
        · exact absurd hm h
        · rw [e3, hm]
      · exact absurd (show x ∈ (lineAt most there ks (t + (d + 1))).2 by rw [show t + (d + 1) = t + d + 1 by omega, e]; exact hm) h
    · obtain ⟨i, a, b, c⟩ := places_gone ht d hm
      exact ⟨i, a, by omega, c⟩

/-- A pop between a push and the pop that meets it meets one that came later. -/
theorem nest_pop (h0 : 0 ≤ there) (h1 : there ≤ most) {k j : Nat} (hp : 0 ≤ lineP (lineAt most there ks k) (ks k)) (hj : lineP (lineAt most there ks k) (ks k) < j) (hjk : j < k) (k2 : ks j = 2) :
    lineP (lineAt most there ks k) (ks k) < lineP (lineAt most there ks j) (ks j) := by
  obtain ⟨_, ys, e, _⟩ := met_form hp
  have hm : lineP (lineAt most there ks k) (ks k) ∈ (lineAt most there ks k).2 := by
    generalize lineP (lineAt most there ks k) (ks k) = p at *
    rw [e]; simp
  generalize lineP (lineAt most there ks k) (ks k) = p at *
  have m1 := places_since (t := j) hj (by omega) hm
  have m2 := places_since (t := j + 1) (by omega) (by omega) hm
  have hr := places_rise (ks := ks) h0 h1 j
  rcases places_step (most := most) (there := there) (ks := ks) j with ⟨k1, _⟩ | ⟨zs, x, _, e1, e2, e3⟩ | ⟨e2, e3, _⟩
  · omega
  · rw [e2] at m2
    rw [e1, List.pairwise_append] at hr
    rw [e3]
    exact hr.2.2 p m2 x (by simp)
  · exfalso
    have hz : (lineAt most there ks j).2 ≠ [] := by intro h; rw [h] at m1; simp at m1
    rcases List.eq_nil_or_concat (lineAt most there ks j).2 with h | ⟨zs, x, h⟩
    · exact hz h
    · have ho := (lineAt_ok h0 h1 ks j).places x (by rw [h]; simp)
      have : lineP (lineAt most there ks j) (ks j) = x := by
        unfold lineP
        rw [if_pos k2, h, List.concat_eq_append, List.getLastD_concat]
      omega

/-- A push between a push and the pop that meets it is met between them. -/
theorem nest_push (h0 : 0 ≤ there) (h1 : there ≤ most) {k j : Nat} (hp : 0 ≤ lineP (lineAt most there ks k) (ks k)) (hj : lineP (lineAt most there ks k) (ks k) < j) (hjk : j < k) (k1 : ks j = 1) (hc : lineC most (lineAt most there ks j) (ks j) = 1) :
    ∃ t, t < k ∧ lineP (lineAt most there ks t) (ks t) = j := by
  obtain ⟨_, ys, e, _⟩ := met_form hp
  generalize lineP (lineAt most there ks k) (ks k) = p at *
  have hr := places_rise (ks := ks) h0 h1 k
  have hn : (j : Int) ∉ (lineAt most there ks k).2 := fun h => by
    rw [e] at h hr
    rw [List.pairwise_append] at hr
    simp only [List.mem_append, List.mem_singleton] at h
    rcases h with h | h
    · have := hr.2.2 _ h p (by simp)
      omega
    · omega
  rcases places_step (most := most) (there := there) (ks := ks) j with ⟨_, _, _, e1⟩ | ⟨_, _, k2, _⟩ | ⟨_, _, e3⟩
  · have hm : (j : Int) ∈ (lineAt most there ks (j + 1)).2 := by rw [e1]; simp
    obtain ⟨i, a, b, c⟩ := places_gone hm (k - (j + 1)) (by rwa [show j + 1 + (k - (j + 1)) = k by omega])
    exact ⟨i, by omega, c⟩
  · omega
  · exact absurd hc (e3 k1)

/-- Nobody is met twice. -/
theorem met_once (h0 : 0 ≤ there) (h1 : there ≤ most) {t k : Nat} (htk : t < k) (hp : 0 ≤ lineP (lineAt most there ks k) (ks k)) : lineP (lineAt most there ks t) (ks t) ≠ lineP (lineAt most there ks k) (ks k) := by
  intro he
  obtain ⟨_, ys, e, _⟩ := met_form hp
  obtain ⟨_, zs, e1, e2⟩ := met_form (most := most) (there := there) (ks := ks) (k := t) (by omega)
  have hr := places_rise (ks := ks) h0 h1 t
  rw [he] at e1
  generalize lineP (lineAt most there ks k) (ks k) = p at *
  have hm : p ∈ (lineAt most there ks k).2 := by rw [e]; simp
  have hlt : p < ((t + 1 : Nat) : Int) := by
    have := (lineAt_ok h0 h1 ks t).places p (by rw [e1]; simp)
    omega
  have m := places_since (t := t + 1) hlt (by omega) hm
  rw [e2] at m
  rw [e1, List.pairwise_append] at hr
  have := hr.2.2 p m p (by simp)
  omega
end

end Go.Proofs.Ytephmkekgmpnpaa
