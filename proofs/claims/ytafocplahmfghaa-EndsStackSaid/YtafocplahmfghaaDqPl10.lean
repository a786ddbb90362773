/-
  A deque of places, in plain lists: what becomes of it by each operation, which push a pop meets, and codes; whom is met, the other way round, and as many as were there. Conditions: none; no Go function is looked at here.
-/
import Derived.Test.YtafocplahmfghaaRng10
namespace Go.Proofs.Ytafocplahmfghaa

/-- The places of those that wait, from left to right, behind the first ones of many, of these kinds; -1: an item that was there. -/
def dqAt (most : Int) (s0 : List Int) (ks : Nat → Int) : Nat → List Int
  | 0 => s0
  | k + 1 => dqL most (dqAt most s0 ks k) (ks k) k
/-- The push that one meets. -/
def dqP (s : List Int) (kind : Int) : Int := if kind = 3 then s.headD (-1) else if kind = 4 then s.getLastD (-1) else -1
/-- The codes of the first n, and whom these meet. -/
def dcL (most : Int) (s0 : List Int) (ks : Nat → Int) (n : Nat) : List Int := (List.range n).map fun k => dqC most (dqAt most s0 ks k) (ks k)
def dpL (most : Int) (s0 : List Int) (ks : Nat → Int) (n : Nat) : List Int := (List.range n).map fun k => dqP (dqAt most s0 ks k) (ks k)
/-- The items that were there. -/
def olds (t : Int) : List Int := List.replicate t.toNat (-1)

section
variable {most : Int} {s0 : List Int} {ks : Nat → Int} {n k : Nat}
theorem dcL_length : (dcL most s0 ks n).length = n := by simp [dcL]
theorem dpL_length : (dpL most s0 ks n).length = n := by simp [dpL]
theorem dcL_snoc : dcL most s0 ks (n + 1) = dcL most s0 ks n ++ [dqC most (dqAt most s0 ks n) (ks n)] := by simp [dcL, List.range_succ]
theorem dpL_snoc : dpL most s0 ks (n + 1) = dpL most s0 ks n ++ [dqP (dqAt most s0 ks n) (ks n)] := by simp [dpL, List.range_succ]
theorem dcL_getD (h : k < n) : (dcL most s0 ks n).getD k 0 = dqC most (dqAt most s0 ks k) (ks k) := by simp [dcL, List.getD, h]
theorem dpL_getD (h : k < n) : (dpL most s0 ks n).getD k 0 = dqP (dqAt most s0 ks k) (ks k) := by simp [dpL, List.getD, h]

/-- What is told, after k of n. -/
def dcK (most : Int) (s0 : List Int) (ks : Nat → Int) (n k : Nat) : List Int := dcL most s0 ks k ++ List.replicate (n - k) 0
def dpK (most : Int) (s0 : List Int) (ks : Nat → Int) (n k : Nat) : List Int := dpL most s0 ks k ++ List.replicate (n - k) (-1)
theorem dcK_length (h : k ≤ n) : (dcK most s0 ks n k).length = n := by simp [dcK, dcL_length]; omega
theorem dpK_length (h : k ≤ n) : (dpK most s0 ks n k).length = n := by simp [dpK, dpL_length]; omega
theorem dcK_all : dcK most s0 ks n n = dcL most s0 ks n := by simp [dcK]
theorem dpK_all : dpK most s0 ks n n = dpL most s0 ks n := by simp [dpK]
theorem dcK_none : dcK most s0 ks n 0 = List.replicate n 0 := by simp [dcK, dcL]
theorem dpK_none : dpK most s0 ks n 0 = List.replicate n (-1) := by simp [dpK, dpL]
theorem dcK_put (h : k < n) : (dcK most s0 ks n k).set k (dqC most (dqAt most s0 ks k) (ks k)) = dcK most s0 ks n (k + 1) := by
  unfold dcK
  rw [List.set_append_right _ _ (by rw [dcL_length]; omega), dcL_length, Nat.sub_self, show n - k = (n - (k + 1)) + 1 by omega, List.replicate_succ, List.set_cons_zero, dcL_snoc]
  simp
theorem dpK_put (h : k < n) : (dpK most s0 ks n k).set k (dqP (dqAt most s0 ks k) (ks k)) = dpK most s0 ks n (k + 1) := by
  unfold dpK
  rw [List.set_append_right _ _ (by rw [dpL_length]; omega), dpL_length, Nat.sub_self, show n - k = (n - (k + 1)) + 1 by omega, List.replicate_succ, List.set_cons_zero, dpL_snoc]
  simp
theorem dpK_same (h : k < n) (e : dqP (dqAt most s0 ks k) (ks k) = -1) : dpK most s0 ks n k = dpK most s0 ks n (k + 1) := by
  unfold dpK
  rw [dpL_snoc, e, show n - k = (n - (k + 1)) + 1 by omega, List.replicate_succ]
  simp

/-- What holds of a deque of places behind k operations: no more than may be; each place is that of an item that was there, or of one of the k. -/
structure DqOk (most : Int) (k : Nat) (s : List Int) : Prop where
  room : (s.length : Int) ≤ most
  places : ∀ j ∈ s, -1 ≤ j ∧ j < k

theorem dqL_ok {s : List Int} (h : DqOk most k s) (kind : Int) : DqOk most (k + 1) (dqL most s kind k) := by
  obtain ⟨h3, h4⟩ := h
  have up : ∀ j ∈ s, -1 ≤ j ∧ j < ((k + 1 : Nat) : Int) := fun j hj => by have := h4 j hj; omega
  unfold dqL
  split
  · split
    · refine ⟨by simp; omega, fun j hj => ?_⟩
      simp only [List.mem_cons] at hj
      rcases hj with rfl | hj
      · omega
      · exact up j hj
    · exact ⟨h3, up⟩
  · split
    · split
      · refine ⟨by simp; omega, fun j hj => ?_⟩
        simp only [List.mem_append, List.mem_singleton] at hj
        rcases hj with hj | rfl
        · exact up j hj
        · omega
      · exact ⟨h3, up⟩
    · split
      · exact ⟨by simp only [List.length_tail]; omega, fun j hj => up j (List.mem_of_mem_tail hj)⟩
      · split
        · exact ⟨by simp only [List.length_dropLast]; omega, fun j hj => up j (List.dropLast_subset _ hj)⟩
        · exact ⟨h3, up⟩
theorem dqAt_ok (h0 : DqOk most 0 s0) (ks : Nat → Int) : ∀ k, DqOk most k (dqAt most s0 ks k)
  | 0 => h0
  | k + 1 => by simpa [dqAt] using dqL_ok (dqAt_ok h0 ks k) (ks k)
theorem olds_ok {t : Int} (h0 : 0 ≤ t) (h1 : t ≤ most) : DqOk most 0 (olds t) := by
  refine ⟨by simp [olds]; omega, fun j hj => ?_⟩
  have := List.eq_of_mem_replicate hj
  omega
theorem olds_length {t : Int} (h0 : 0 ≤ t) : ((olds t).length : Int) = t := by simp [olds]; omega

theorem headD_in {s : List Int} {P : Int → Prop} (h : ∀ j ∈ s, P j) (d : Int) (hd : P d) : P (s.headD d) := by
  cases s with
  | nil => exact hd
  | cons x l => exact h x (by simp)
theorem getLastD_in {s : List Int} {P : Int → Prop} (h : ∀ j ∈ s, P j) (d : Int) (hd : P d) : P (s.getLastD d) := by
  rcases List.eq_nil_or_concat s with e | ⟨l, x, e⟩
  · rw [e]; exact hd
  · rw [List.concat_eq_append] at e
    rw [e, List.getLastD_concat]
    exact h x (by rw [e]; simp)
theorem dqP_in {s : List Int} (h : DqOk most k s) (kind : Int) : -1 ≤ dqP s kind ∧ dqP s kind < k := by
  unfold dqP
  split
  · exact headD_in h.places _ (by omega)
  · split
    · exact getLastD_in h.places _ (by omega)
    · omega
theorem dqC_in (most : Int) (s : List Int) (kind : Int) : 1 ≤ dqC most s kind ∧ dqC most s kind ≤ 5 := by
  unfold dqC
  repeat' split
  all_goals omega

theorem dqAt_congr {ks' : Nat → Int} {k : Nat} (h : ∀ i, i < k → ks i = ks' i) : dqAt most s0 ks k = dqAt most s0 ks' k := by
  induction k with
  | zero => rfl
  | succ k ih => simp only [dqAt]; rw [ih (fun i hi => h i (by omega)), h k (by omega)]
theorem dpL_congr {ks' : Nat → Int} {n : Nat} (h : ∀ i, i < n → ks i = ks' i) : dpL most s0 ks n = dpL most s0 ks' n := by
  unfold dpL
  refine List.map_congr_left fun k hk => ?_
  have hk : k < n := by simpa using hk
  rw [dqAt_congr (fun i hi => h i (by omega)), h k hk]
theorem dcL_congr {ks' : Nat → Int} {n : Nat} (h : ∀ i, i < n → ks i = ks' i) : dcL most s0 ks n = dcL most s0 ks' n := by
  unfold dcL
  refine List.map_congr_left fun k hk => ?_
  have hk : k < n := by simpa using hk
  rw [dqAt_congr (fun i hi => h i (by omega)), h k hk]
theorem dpL_take (h : k ≤ n) : (dpL most s0 ks n).take k = dpL most s0 ks k := by
  unfold dpL
  rw [← List.map_take, List.take_range, Nat.min_eq_left h]

/-- Each push at most once: a place that is met is not there any more, and no later one is the same. -/
structure Once (s : List Int) (k : Nat) : Prop where
  low : ∀ j ∈ s, j < k
  one : ∀ j, 0 ≤ j → s.count j ≤ 1
theorem Once.put {s : List Int} (h : Once s k) (left : Bool) : Once (if left then (k : Int) :: s else s ++ [(k : Int)]) (k + 1) := by
  have hk : s.count (k : Int) = 0 := List.count_eq_zero.2 fun hm => by have := h.low _ hm; omega
  refine ⟨fun j hj => ?_, fun j hj => ?_⟩
  · have : j = k ∨ j ∈ s := by
      cases left
      · simp only [Bool.false_eq_true, if_false, List.mem_append, List.mem_singleton] at hj
        exact hj.symm
      · simp only [if_true, List.mem_cons] at hj
        exact hj
    rcases this with rfl | hm
    · omega
    · have := h.low j hm; omega
  · by_cases e : j = k
    · subst e
      cases left <;> simp [List.count_append, hk]
    · have e' : ¬ (k : Int) = j := fun x => e x.symm
      have := h.one j hj
      cases left <;> simp [List.count_append, List.count_cons, e'] <;> omega
theorem Once.sub {s l : List Int} (h : Once s k) (hs : List.Sublist l s) : Once l (k + 1) :=
  ⟨fun j hj => by have := h.low j (hs.subset hj); omega, fun j hj => Nat.le_trans (hs.count_le j) (h.one j hj)⟩
theorem once_olds (t : Int) : Once (olds t) 0 := by
  refine ⟨fun j hj => ?_, fun j hj => ?_⟩
  · have := List.eq_of_mem_replicate hj; omega
  · rw [olds, List.count_replicate]
    have : ¬ (-1 : Int) = j := by omega
    simp [this]
theorem once_step {s : List Int} (h : Once s k) (kind : Int) : Once (dqL most s kind k) (k + 1) := by
  unfold dqL
  split
  · split
    · exact h.put true
    · exact h.sub (List.Sublist.refl _)
  · split
    · split
      · exact h.put false
      · exact h.sub (List.Sublist.refl _)
    · split
      · exact h.sub (List.tail_sublist _)
      · split
        · exact h.sub (List.dropLast_sublist _)
        · exact h.sub (List.Sublist.refl _)
theorem once_at (h0 : Once s0 0) (ks : Nat → Int) : ∀ k, Once (dqAt most s0 ks k) k
  | 0 => h0
  | k + 1 => once_step (once_at h0 ks k) (ks k)

/-- Who is met is not there behind. -/
theorem met_gone {s : List Int} (h : Once s k) (kind : Int) (hp : 0 ≤ dqP s kind) : dqP s kind ∉ dqL most s kind k := by
  unfold dqP dqL at *
  by_cases h3 : kind = 3
  · subst h3
    simp only [if_true, if_neg (show ¬ (3 : Int) = 1 by omega), if_neg (show ¬ (3 : Int) = 2 by omega)] at *
    cases s with
    | nil => simp at hp
    | cons x l =>
      simp only [List.headD_cons, List.tail_cons] at *
      intro hm
      have := h.one x hp
      rw [List.count_cons_self] at this
      have := List.count_pos_iff.2 hm
      omega
  · by_cases h4 : kind = 4
    · subst h4
      simp only [if_true, if_neg (show ¬ (4 : Int) = 1 by omega), if_neg (show ¬ (4 : Int) = 2 by omega), if_neg (show ¬ (4 : Int) = 3 by omega)] at *
      rcases List.eq_nil_or_concat s with e | ⟨l, x, e⟩
      · rw [e] at hp; simp at hp
      · rw [List.concat_eq_append] at e
        subst e
        rw [List.getLastD_concat, List.dropLast_concat] at *
        intro hm
        have h1 := h.one x hp
        rw [List.count_append, List.count_singleton_self] at h1
        have h2 := List.count_pos_iff.2 hm
        omega
    · simp only [if_neg h3, if_neg h4] at hp
      omega
/-- What is not there and came ahead does not come again. -/
theorem gone_stays {s : List Int} {j : Int} (h : j ∉ s) (hj : j < k) (kind : Int) : j ∉ dqL most s kind k := by
  unfold dqL
  repeat' split
  · simp only [List.mem_cons, not_or]; exact ⟨by omega, h⟩
  · exact h
  · simp only [List.mem_append, List.mem_singleton, not_or]; exact ⟨h, by omega⟩
  · exact h
  · exact fun hm => h (List.mem_of_mem_tail hm)
  · exact fun hm => h (List.dropLast_subset _ hm)
  · exact h
theorem gone_later {j : Int} {k : Nat} (h : j ∉ dqAt most s0 ks k) (hj : j < k) : ∀ d, j ∉ dqAt most s0 ks (k + d)
  | 0 => h
  | d + 1 => gone_stays (k := k + d) (gone_later h hj d) (by omega) _
theorem met_later (h0 : Once s0 0) {k i : Nat} (hki : k < i) (hp : 0 ≤ dqP (dqAt most s0 ks k) (ks k)) : dqP (dqAt most s0 ks k) (ks k) ∉ dqAt most s0 ks i := by
  obtain ⟨d, rfl⟩ := Nat.exists_eq_add_of_le hki
  have ho := once_at (most := most) h0 ks k
  have hl : dqP (dqAt most s0 ks k) (ks k) < (k + 1 : Nat) := by
    have : dqP (dqAt most s0 ks k) (ks k) < k := by
      unfold dqP
      split
      · exact headD_in ho.low _ (by omega)
      · split
        · exact getLastD_in ho.low _ (by omega)
        · omega
    omega
  exact gone_later (k := k + 1) (met_gone ho (ks k) hp) hl d
/-- Who is met stood there. -/
theorem met_in {s : List Int} {kind : Int} (hp : 0 ≤ dqP s kind) : dqP s kind ∈ s := by
  unfold dqP at *
  split
  · rename_i h3
    rw [if_pos h3] at hp
    cases s with
    | nil => simp at hp
    | cons x l => simp
  · rename_i h3
    rw [if_neg h3] at hp
    split
    · rename_i h4
      rw [if_pos h4] at hp
      rcases List.eq_nil_or_concat s with e | ⟨l, x, e⟩
      · rw [e] at hp; simp at hp
      · rw [List.concat_eq_append] at e
        rw [e, List.getLastD_concat]; simp
    · rename_i h4
      rw [if_neg h4] at hp
      omega
/-- Nobody is met twice. -/
theorem met_once {h0 : Once s0 0} {k i : Nat} (hki : k < i) (hp : 0 ≤ dqP (dqAt most s0 ks k) (ks k)) : dqP (dqAt most s0 ks i) (ks i) ≠ dqP (dqAt most s0 ks k) (ks k) := fun e =>
  met_later h0 hki hp (e ▸ met_in (e ▸ hp))
/-- Who stands there came ahead, was a push, and was told Done. -/
theorem stood {j : Int} (h0 : ∀ j ∈ s0, j < 0) (hj : 0 ≤ j) : ∀ k, j ∈ dqAt most s0 ks k → j < k ∧ (ks j.toNat = 1 ∨ ks j.toNat = 2) ∧ dqC most (dqAt most s0 ks j.toNat) (ks j.toNat) = 1
  | 0, h => by have := h0 j h; omega
  | k + 1, h => by
    by_cases hm : j ∈ dqAt most s0 ks k
    · obtain ⟨h1, h2, h3⟩ := stood h0 hj k hm
      exact ⟨by omega, h2, h3⟩
    · simp only [dqAt] at h
      have hk : j = k ∧ (ks k = 1 ∨ ks k = 2) ∧ ((dqAt most s0 ks k).length : Int) < most := by
        unfold dqL at h
        split at h
        · rename_i h1
          split at h
          · rename_i h2
            simp only [List.mem_cons] at h
            rcases h with h | h
            · exact ⟨h, .inl h1, h2⟩
            · exact absurd h hm
          · exact absurd h hm
        · split at h
          · rename_i h1
            split at h
            · rename_i h2
              simp only [List.mem_append, List.mem_singleton] at h
              rcases h with h | h
              · exact absurd h hm
              · exact ⟨h, .inr h1, h2⟩
            · exact absurd h hm
          · split at h
            · exact absurd (List.mem_of_mem_tail h) hm
            · split at h
              · exact absurd (List.dropLast_subset _ h) hm
              · exact absurd h hm
      obtain ⟨rfl, h2, h3⟩ := hk
      rw [show ((k : Nat) : Int).toNat = k by omega]
      refine ⟨by omega, h2, ?_⟩
      unfold dqC
      rw [if_pos h2, if_pos h3]
end

end Go.Proofs.Ytafocplahmfghaa
