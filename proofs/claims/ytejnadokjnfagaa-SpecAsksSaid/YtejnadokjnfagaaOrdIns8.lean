/-
  Where the document's order of a batch puts one place more, and that this is the order. Conditions: none; no Go function is looked at here.
-/
import Derived.Test.YtejnadokjnfagaaOrdPl8
namespace Go.Proofs.Ytejnadokjnfagaa

/-- Does an operation of a heap come ahead of another one, which stands behind it? -/
def lessO (a b : Int × Int) : Bool := if a.1 = 1 ∧ b.1 = 1 then decide (a.2 ≤ b.2) else decide (a.1 = 1 ∨ ¬ b.1 = 1)
/-- By their places. -/
def lessB (os : List (Int × Int)) (i k : Int) : Bool := lessO (os.getD i.toNat (0, 0)) (os.getD k.toNat (0, 0))

theorem isAdd_three {os : List (Int × Int)} {i : Int} : isAdd 3 os i = true ↔ (os.getD i.toNat (0, 0)).1 = 1 := by simp [isAdd]
theorem isAdd_not {os : List (Int × Int)} {i : Int} : isAdd 3 os i = false ↔ ¬ (os.getD i.toNat (0, 0)).1 = 1 := by simp [isAdd]

theorem lessO_last {a b : Int × Int} (h : ¬ b.1 = 1) : lessO a b = true := by unfold lessO; rw [if_neg (fun c => h c.2)]; exact decide_eq_true (.inr h)
theorem lessO_other {a b : Int × Int} (ha : ¬ a.1 = 1) (hb : b.1 = 1) : lessO a b = false := by
  unfold lessO
  rw [if_neg (fun c => ha c.1)]
  exact decide_eq_false (fun h => h.elim ha (fun g => g hb))

theorem ord_behind {obj : Int} {os : List (Int × Int)} {k : Nat} (h : isAdd obj os k = false) : ordK obj os k ++ [(k : Int)] = ordK obj os (k + 1) := by
  unfold ordK
  obtain ⟨h1, h2⟩ := adds_no h
  rw [h1, h2, List.append_assoc]

theorem ord_insert {os : List (Int × Int)} {k e : Nat} (ha : e ≤ k) (h1 : ∀ j, e ≤ j → j < k → lessB os ((ordK 3 os k).getD j 0) k = false) (h2 : e = 0 ∨ lessB os ((ordK 3 os k).getD (e - 1) 0) k = true) :
    ((ordK 3 os k).take e ++ [(k : Int)]) ++ (ordK 3 os k).drop e = ordK 3 os (k + 1) := by
  have hl : (ordK 3 os k).length = k := ordK_length 3 os k
  cases hk : isAdd 3 os k with
  | false =>
    have he : e = k := by
      rcases Nat.lt_or_ge e k with h | h
      · have c := h1 e (Nat.le_refl _) h
        have hk2 := isAdd_not.1 hk
        unfold lessB at c
        rw [lessO_last hk2] at c
        cases c
      · omega
    subst he
    rw [List.take_of_length_le (by omega), List.drop_eq_nil_of_le (by omega), List.append_nil]
    exact ord_behind hk
  | true =>
    have hk1 := isAdd_three.1 hk
    have hAl : (sortB (keyOf os) (addsOf 3 os k)).length + (othersOf 3 os k).length = k := by rw [(sortB_ok _ _).1.length_eq]; exact both_length 3 os k
    have hAm : ∀ x ∈ sortB (keyOf os) (addsOf 3 os k), (os.getD x.toNat (0, 0)).1 = 1 ∧ x ≤ (k : Int) := fun x hx => by
      have := List.mem_filter.1 ((sortB_ok _ _).1.mem_iff.1 hx)
      exact ⟨isAdd_three.1 this.2, by have := mem_idx.1 this.1; omega⟩
    have hOm : ∀ x ∈ othersOf 3 os k, ¬ (os.getD x.toNat (0, 0)).1 = 1 := fun x hx => by
      have := (List.mem_filter.1 hx).2
      exact isAdd_not.1 (by simpa using this)
    have hs := (sortB_ok (keyOf os) (addsOf 3 os k)).2
    have hp := (sortB_ok (keyOf os) (addsOf 3 os k)).1
    have eK : ordK 3 os k = sortB (keyOf os) (addsOf 3 os k) ++ othersOf 3 os k := rfl
    have eN : ordK 3 os (k + 1) = sortB (keyOf os) (addsOf 3 os (k + 1)) ++ othersOf 3 os (k + 1) := rfl
    obtain ⟨a1, a2⟩ := adds_yes hk
    rw [eN, a1, a2]
    rw [eK] at h1 h2 ⊢
    generalize sortB (keyOf os) (addsOf 3 os k) = A at *
    generalize othersOf 3 os k = O at *
    have he : e ≤ A.length := by
      rcases Nat.lt_or_ge A.length e with h | h
      · rcases h2 with h2 | h2
        · omega
        · have hm : (A ++ O).getD (e - 1) 0 ∈ O := by
            have hj : e - 1 - A.length < O.length := by omega
            simp [List.getD, List.getElem?_append_right (show A.length ≤ e - 1 by omega), hj]
          have hn := hOm _ hm
          unfold lessB at h2
          rw [lessO_other hn hk1] at h2
          cases h2
      · exact h
    rw [List.take_append_of_le_length he, List.drop_append_of_le_length he, ← List.append_assoc]
    congr 1
    refine sortB_is ?_ ?_
    · refine (List.Perm.append_right _ List.perm_append_comm).trans ?_
      rw [List.append_assoc, List.take_append_drop]
      exact (List.Perm.cons _ hp).trans (List.perm_append_singleton _ _).symm
    · have hc1 : ∀ x ∈ A.take e, kLe (keyOf os) x k := by
        intro x hx
        rcases h2 with h2 | h2
        · subst h2; simp at hx
        · rcases Nat.eq_zero_or_pos e with h0 | h0
          · subst h0; simp at hx
          · have hj : e - 1 < A.length := by omega
            have t := hs.take_le (k := e - 1) hj x (by rw [show e - 1 + 1 = e by omega]; exact hx)
            have hx1 := hAm (A.getD (e - 1) 0) (by simp [List.getD, hj])
            have eg : (A ++ O).getD (e - 1) 0 = A.getD (e - 1) 0 := by simp [List.getD, List.getElem?_append_left hj]
            rw [eg] at h2
            unfold lessB lessO at h2
            rw [if_pos ⟨hx1.1, hk1⟩] at h2
            have h3 := of_decide_eq_true h2
            have h4 := hx1.2
            refine t.trans ?_
            unfold kLe keyOf
            omega
      have hc2 : ∀ y ∈ A.drop e, kLe (keyOf os) k y := by
        intro y hy
        rcases Nat.lt_or_ge e A.length with hj | hj
        · have t := hs.drop_ge hj y hy
          have hx1 := hAm (A.getD e 0) (by simp [List.getD, hj])
          have h3 := h1 e (Nat.le_refl _) (by omega)
          have eg : (A ++ O).getD e 0 = A.getD e 0 := by simp [List.getD, List.getElem?_append_left hj]
          rw [eg] at h3
          unfold lessB lessO at h3
          rw [if_pos ⟨hx1.1, hk1⟩] at h3
          have h4 := of_decide_eq_false h3
          refine kLe.trans ?_ t
          unfold kLe keyOf
          omega
        · rw [List.drop_eq_nil_of_le hj] at hy; simp at hy
      unfold Srt at hs ⊢
      rw [List.append_assoc]
      refine List.pairwise_append.2 ⟨List.Pairwise.sublist (List.take_sublist _ _) hs, List.pairwise_cons.2 ⟨hc2, List.Pairwise.sublist (List.drop_sublist _ _) hs⟩, ?_⟩
      intro x hx y hy
      rcases List.mem_cons.1 hy with h | h
      · subst h; exact hc1 x hx
      · exact (hc1 x hx).trans (hc2 y h)

end Go.Proofs.Ytejnadokjnfagaa
