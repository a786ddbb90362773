/-
  A batch at an empty heap whose operations put or take: what is taken is the least, what finds no room is the greatest, in plain lists. Conditions: none; no Go function is looked at here.
-/
import Derived.Test.YtmkpmnmllgdppaaMor11m
namespace Go.Proofs.Ytmkpmnmllgdppaa
open Go.RowKit Go.Lib

theorem valsL_up (os : List (Int × Int)) : (valsL os).Pairwise (· ≤ ·) := by
  have hs : Srt (keyOf os) (addsL os) := (sortB_ok (keyOf os) (addsOf 3 os os.length)).2
  unfold valsL
  rw [List.pairwise_map]
  exact hs.imp (fun h => by unfold kLe at h; omega)
theorem valsL_le {os : List (Int × Int)} {i j : Nat} (h : i ≤ j) (hj : j < (addsL os).length) : (valsL os).getD i 0 ≤ (valsL os).getD j 0 := by
  have hl := valsL_length os
  rcases Nat.eq_or_lt_of_le h with e | e
  · subst e; exact Int.le_refl _
  · have := List.pairwise_iff_getElem.1 (valsL_up os) i j (by omega) (by omega) e
    simpa [List.getD, show i < (valsL os).length by omega, show j < (valsL os).length by omega] using this

theorem fgt_all (x : Int) : ∀ (l : List Int), (∀ y ∈ l, y ≤ x) → fgt x l = l.length
  | [], _ => rfl
  | y :: l, h => by
    have h1 := h y (by simp)
    rw [fgt, if_neg (by omega), fgt_all x l (fun z hz => h z (by simp [hz]))]
    rfl
theorem ins_up (os : List (Int × Int)) (hs : List Int) : ∀ k, k ≤ (addsL os).length → vals (insMany [] (valsL os) hs k) = (valsL os).take k
  | 0, _ => by simp [insMany, vals]
  | k + 1, hk => by
    have ih := ins_up os hs k (by omega)
    have hl := valsL_length os
    rw [insMany, vals_ins, ih]
    have ha : ∀ y ∈ (valsL os).take k, y ≤ (valsL os).getD k 0 := by
      intro y hy
      obtain ⟨i, hi, e⟩ := List.getElem_of_mem hy
      simp only [List.length_take] at hi
      rw [List.getElem_take] at e
      have := valsL_le (os := os) (i := i) (j := k) (by omega) (by omega)
      rw [show (valsL os).getD i 0 = (valsL os)[i] by simp [List.getD, show i < (valsL os).length by omega], e] at this
      exact this
    rw [fgt_all _ _ ha, List.take_of_length_le (Nat.le_refl _), List.drop_eq_nil_of_le (Nat.le_refl _), List.take_succ_eq_append_getElem (show k < (valsL os).length by omega)]
    simp [List.getD, show k < (valsL os).length by omega]
theorem putZ_new {m : Int} (h0 : 0 ≤ m) (os : List (Int × Int)) : putZ m [] os = (valsL os).take (roomS m [] os) := by
  have h := runS_vals m ((ordO 3 os).take (addsL os).length) ([], [])
  rw [adds_all [] os (by simpa using h0)] at h
  unfold putZ
  rw [show ([] : List Int) = vals ([] : List It) from rfl, ← h]
  exact ins_up os _ _ (by unfold roomS; omega)

section
variable {m : Int} {os : List (Int × Int)}
/-- All put or take. -/
def Two2 (os : List (Int × Int)) : Prop := ∀ o ∈ os, o.1 = 1 ∨ o.1 = 2
theorem two_at (h : Two2 os) {i : Nat} (hi : i < os.length) : (os.getD i (0, 0)).1 = 1 ∨ (os.getD i (0, 0)).1 = 2 := h _ (by simp [List.getD, hi])
theorem others_two (h : Two2 os) {j : Nat} (hj : j < (othersL os).length) : (os.getD ((othersL os).getD j 0).toNat (0, 0)).1 = 2 := by
  obtain ⟨h1, h2, h3⟩ := othersL_at hj
  exact (two_at h (i := ((othersL os).getD j 0).toNat) (by omega)).resolve_left h3
theorem minN_two (h : Two2 os) {j : Nat} (hj : j ≤ (othersL os).length) : minN os j = j := by
  unfold minN
  rw [List.countP_eq_length.2]
  · rw [List.length_take, List.length_drop, ordO_len]; omega
  · intro o ho
    have ho2 := List.mem_of_mem_take ho
    obtain ⟨i, hi, e⟩ := List.getElem_of_mem ho2
    rw [List.length_drop, ordO_len] at hi
    rw [List.getElem_drop] at e
    have hio : i < (othersL os).length := by omega
    have h1 := ordO_other hio
    have e2 : (ordO 3 os).getD ((addsL os).length + i) (0, 0) = o := by rw [← e]; simp [List.getD, show (addsL os).length + i < (ordO 3 os).length by rw [ordO_len]; omega]
    rw [← e2, h1]
    exact decide_eq_true (others_two h hio)

theorem hd_drop (l : List Int) (j : Nat) (h : j < l.length) : (l.drop j).headD 0 = l.getD j 0 := by
  rw [List.drop_eq_getElem_cons h]
  simp [List.getD, h]

/-- What is told of which place. -/
theorem least_ways (h0 : 0 ≤ m) (h : Two2 os) {i : Nat} (hi : i < os.length) :
    (∃ a, a < roomS m [] os ∧ a < (addsL os).length ∧ (addsL os).getD a 0 = (i : Int) ∧ (batT 3 m [] os).getD i (0, 0) = (1, 0)) ∨
    (∃ a, roomS m [] os ≤ a ∧ a < (addsL os).length ∧ (addsL os).getD a 0 = (i : Int) ∧ (batT 3 m [] os).getD i (0, 0) = (3, 0)) ∨
    (∃ j, j < roomS m [] os ∧ j < (othersL os).length ∧ (othersL os).getD j 0 = (i : Int) ∧ (batT 3 m [] os).getD i (0, 0) = (2, (valsL os).getD j 0)) ∨
    (∃ j, j < (othersL os).length ∧ (othersL os).getD j 0 = (i : Int) ∧ (batT 3 m [] os).getD i (0, 0) = (4, 0)) := by
  rcases place_way os hi with ⟨k, hk, e⟩ | ⟨j, hj, e⟩
  · have ht := told_add (m := m) (l := []) os (by simpa using h0) hk
    rw [e, Int.toNat_natCast] at ht
    rw [show vals ([] : List It) = [] from rfl] at ht
    by_cases hr : k < roomS m [] os
    · exact .inl ⟨k, hr, hk, e, by rw [ht, if_pos hr]⟩
    · exact .inr (.inl ⟨k, by omega, hk, e, by rw [ht, if_neg hr]⟩)
  · have ht := told_other m [] os hj
    have hk := others_two h hj
    rw [hk, minN_two h (by omega), putZ_new h0] at ht
    rw [e, Int.toNat_natCast] at ht
    have hl := valsL_length os
    have hr2 : roomS m [] os ≤ (addsL os).length := by unfold roomS; omega
    by_cases hr : j < roomS m [] os
    · refine .inr (.inr (.inl ⟨j, hr, hj, e, ?_⟩))
      rw [ht]
      have hne : ((valsL os).take (roomS m [] os)).drop j ≠ [] := by
        intro h
        have := congrArg List.length h
        simp at this
        omega
      unfold hpC hpV
      rw [if_neg (by omega), if_pos rfl, if_neg hne, if_pos rfl, hd_drop _ _ (by simp; omega)]
      simp [List.getD, hr]
    · refine .inr (.inr (.inr ⟨j, hj, e, ?_⟩))
      have hn : ((valsL os).take (roomS m [] os)).drop j = [] := List.drop_eq_nil_of_le (by simp; omega)
      rw [ht, hn]
      rfl

/-- The last one that was got among the first k. -/
def lastG (T : List (Int × Int)) : Nat → Int
  | 0 => -2147483648
  | k + 1 => if (T.getD k (0, 0)).1 = 2 then (T.getD k (0, 0)).2 else lastG T k
theorem lastG_is (T : List (Int × Int)) : ∀ k, lastG T k = -2147483648 ∨ ∃ i, i < k ∧ (T.getD i (0, 0)).1 = 2 ∧ lastG T k = (T.getD i (0, 0)).2
  | 0 => .inl rfl
  | k + 1 => by
    unfold lastG
    split
    · rename_i h; exact .inr ⟨k, by omega, h, rfl⟩
    · rcases lastG_is T k with h | ⟨i, hi, h1, h2⟩
      · exact .inl h
      · exact .inr ⟨i, by omega, h1, h2⟩

theorem othersL_up (os : List (Int × Int)) {a b : Nat} (ha : a < (othersL os).length) (hb : b < (othersL os).length) (h : (othersL os).getD a 0 < (othersL os).getD b 0) : a < b := by
  have hp : (othersL os).Pairwise (· < ·) := List.Pairwise.filter _ (idx_rise _)
  rcases Nat.lt_trichotomy a b with h1 | h1 | h1
  · exact h1
  · subst h1; omega
  · have := List.pairwise_iff_getElem.1 hp b a hb ha h1
    simp [List.getD, ha, hb] at h
    omega

/-- Who gets at place i got number j. -/
theorem least_got (h0 : 0 ≤ m) (h : Two2 os) {i : Nat} (hi : i < os.length) (ht : ((batT 3 m [] os).getD i (0, 0)).1 = 2) : ∃ j, j < roomS m [] os ∧ j < (othersL os).length ∧ (othersL os).getD j 0 = (i : Int) ∧ ((batT 3 m [] os).getD i (0, 0)).2 = (valsL os).getD j 0 := by
  rcases least_ways h0 h hi with ⟨a, _, _, _, e⟩ | ⟨a, _, _, _, e⟩ | ⟨j, h1, h2, h3, e⟩ | ⟨j, _, _, e⟩
  · rw [e] at ht; simp at ht
  · rw [e] at ht; simp at ht
  · exact ⟨j, h1, h2, h3, by rw [e]⟩
  · rw [e] at ht; simp at ht
theorem room_le : roomS m [] os ≤ (addsL os).length := by unfold roomS; omega
theorem op_mem {i : Nat} (h : i < os.length) : os.getD i (0, 0) ∈ os := by simp [List.getD, h]
theorem vals_ok (hok : ∀ o ∈ os, OpOk o) {j : Nat} (hj : j < (addsL os).length) : -2147483648 ≤ (valsL os).getD j 0 := by
  rw [valsL_at hj]
  have ha := addsL_at hj
  have := hok _ (op_mem (os := os) (i := ((addsL os).getD j 0).toNat) (by omega))
  unfold keyOf
  exact this.2.1

theorem least_up (h0 : 0 ≤ m) (h : Two2 os) (hok : ∀ o ∈ os, OpOk o) {k : Nat} (hk : k < os.length) (ht : ((batT 3 m [] os).getD k (0, 0)).1 = 2) : lastG (batT 3 m [] os) k ≤ ((batT 3 m [] os).getD k (0, 0)).2 := by
  obtain ⟨j, hj, hjo, e, hv⟩ := least_got h0 h hk ht
  have hr := room_le (m := m) (os := os)
  rw [hv]
  rcases lastG_is (batT 3 m [] os) k with h1 | ⟨i, hi, h1, h2⟩
  · rw [h1]; exact vals_ok hok (by omega)
  · obtain ⟨a, ha, hao, ea, hva⟩ := least_got h0 h (show i < os.length by omega) h1
    rw [h2, hva]
    have hlt := othersL_up os hao hjo (by rw [ea, e]; omega)
    exact valsL_le (by omega) (by omega)
theorem least_full (h0 : 0 ≤ m) (h : Two2 os) {k j : Nat} (hk : k < os.length) (hj : j < os.length) (h1 : ((batT 3 m [] os).getD k (0, 0)).1 = 1) (h3 : ((batT 3 m [] os).getD j (0, 0)).1 = 3) : ¬ (os.getD j (0, 0)).2 < (os.getD k (0, 0)).2 := by
  rcases least_ways h0 h hk with ⟨a, ha, hal, ea, e⟩ | ⟨a, _, _, _, e⟩ | ⟨a, _, _, _, e⟩ | ⟨a, _, _, e⟩
  · rcases least_ways h0 h hj with ⟨b, _, _, _, e'⟩ | ⟨b, hb, hbl, eb, e'⟩ | ⟨b, _, _, _, e'⟩ | ⟨b, _, _, e'⟩
    · rw [e'] at h3; simp at h3
    · have := valsL_le (os := os) (i := a) (j := b) (by omega) hbl
      rw [valsL_at hal, valsL_at hbl, ea, eb] at this
      unfold keyOf at this
      simp only [Int.toNat_natCast] at this
      omega
    · rw [e'] at h3; simp at h3
    · rw [e'] at h3; simp at h3
  · rw [e] at h1; simp at h1
  · rw [e] at h1; simp at h1
  · rw [e] at h1; simp at h1
theorem least_end (h0 : 0 ≤ m) (h : Two2 os) (hok : ∀ o ∈ os, OpOk o) (hz : batZ 3 m [] os ≠ []) : lastG (batT 3 m [] os) os.length ≤ (batZ 3 m [] os).getD 0 0 := by
  have hr := room_le (m := m) (os := os)
  have hl := valsL_length os
  have e := batZ_is m [] os
  rw [minN_two h (Nat.le_refl _), putZ_new h0] at e
  rw [e] at hz ⊢
  have hlen : (othersL os).length < roomS m [] os := by
    rcases Nat.lt_or_ge (othersL os).length (roomS m [] os) with h1 | h1
    · exact h1
    · exact absurd (List.drop_eq_nil_of_le (by simp; omega)) hz
  have eh : (((valsL os).take (roomS m [] os)).drop (othersL os).length).getD 0 0 = (valsL os).getD (othersL os).length 0 := by
    simp [List.getD, hlen]
  rw [eh]
  rcases lastG_is (batT 3 m [] os) os.length with h1 | ⟨i, hi, h1, h2⟩
  · rw [h1]; exact vals_ok hok (by omega)
  · obtain ⟨a, ha, hao, ea, hva⟩ := least_got h0 h hi h1
    rw [h2, hva]
    exact valsL_le (by omega) (by omega)
end

end Go.Proofs.Ytmkpmnmllgdppaa
