/-
  The order of a batch in plain lists: places, which of them put into a heap, sorted by their values, and then all others. Conditions: none; no Go function is looked at here. Where the document's order of a batch puts one place more, and that this is the order. Conditions: none; no Go function is looked at here.
-/
import Derived.Test.YtniefplgijpckaaGreatIns11m
namespace Go.Proofs.YtniefplgijpckaaGreat

/-- The places 0, 1 and so on. -/
def idx (k : Nat) : List Int := (List.range k).map Int.ofNat
/-- Does the operation in this place put into a heap? -/
def isAdd (obj : Int) (os : List (Int × Int)) (i : Int) : Bool := obj == 3 && (os.getD i.toNat (0, 0)).1 == 1
def addsOf (obj : Int) (os : List (Int × Int)) (k : Nat) : List Int := (idx k).filter (isAdd obj os)
def othersOf (obj : Int) (os : List (Int × Int)) (k : Nat) : List Int := (idx k).filter (fun i => !isAdd obj os i)

theorem idx_succ (k : Nat) : idx (k + 1) = idx k ++ [(k : Int)] := by unfold idx; rw [List.range_succ]; simp
theorem idx_length (k : Nat) : (idx k).length = k := by simp [idx]
theorem mem_idx {k : Nat} {x : Int} : x ∈ idx k ↔ 0 ≤ x ∧ x < k := by
  unfold idx
  simp only [List.mem_map, List.mem_range]
  constructor
  · rintro ⟨i, hi, rfl⟩; simp; omega
  · rintro ⟨h1, h2⟩; exact ⟨x.toNat, by omega, by simp; omega⟩
theorem idx_rise (k : Nat) : (idx k).Pairwise (· < ·) := by
  unfold idx
  rw [List.pairwise_map]
  exact (List.pairwise_lt_range (n := k)).imp (fun h => by simpa using h)
theorem idx_getD {k i : Nat} (h : i < k) : (idx k).getD i 0 = i := by simp [idx, List.getD, h]

section
variable {obj : Int} {os : List (Int × Int)} {k : Nat}
theorem adds_yes (h : isAdd obj os k = true) : addsOf obj os (k + 1) = addsOf obj os k ++ [(k : Int)] ∧ othersOf obj os (k + 1) = othersOf obj os k := by
  unfold addsOf othersOf; rw [idx_succ, List.filter_append, List.filter_append]; simp [h]
theorem adds_no (h : isAdd obj os k = false) : addsOf obj os (k + 1) = addsOf obj os k ∧ othersOf obj os (k + 1) = othersOf obj os k ++ [(k : Int)] := by
  unfold addsOf othersOf; rw [idx_succ, List.filter_append, List.filter_append]; simp [h]
theorem adds_rise (obj : Int) (os : List (Int × Int)) (k : Nat) : Rises k (addsOf obj os k) :=
  ⟨List.Pairwise.filter _ (idx_rise k), fun _ hx => mem_idx.1 (List.mem_filter.1 hx).1⟩
theorem both_perm (obj : Int) (os : List (Int × Int)) (k : Nat) : (addsOf obj os k ++ othersOf obj os k).Perm (idx k) := List.filter_append_perm _ _
theorem both_length (obj : Int) (os : List (Int × Int)) (k : Nat) : (addsOf obj os k).length + (othersOf obj os k).length = k := by
  have := (both_perm obj os k).length_eq
  rw [List.length_append, idx_length] at this
  exact this
theorem adds_none (h : ¬ obj = 3) : addsOf obj os k = [] ∧ othersOf obj os k = idx k := by
  have h1 : ∀ i, isAdd obj os i = false := fun i => by simp [isAdd, h]
  unfold addsOf othersOf
  simp [h1]
end

/-- One more among what is sorted. -/
def insB (key : Int → Int) (x : Int) : List Int → List Int
  | [] => [x]
  | y :: l => if key x < key y ∨ (key x = key y ∧ x ≤ y) then x :: y :: l else y :: insB key x l
def sortB (key : Int → Int) : List Int → List Int
  | [] => []
  | x :: l => insB key x (sortB key l)

theorem insB_perm (key : Int → Int) (x : Int) : ∀ l, (insB key x l).Perm (x :: l)
  | [] => List.Perm.refl _
  | y :: l => by
    unfold insB
    split
    · exact List.Perm.refl _
    · exact (List.Perm.cons y (insB_perm key x l)).trans (List.Perm.swap x y l)
theorem insB_srt {key : Int → Int} {x : Int} : ∀ {l}, Srt key l → Srt key (insB key x l)
  | [], _ => srt_one x
  | y :: l, h => by
    unfold insB
    obtain ⟨h1, h2⟩ := List.pairwise_cons.1 h
    split
    · rename_i c
      exact List.pairwise_cons.2 ⟨fun z hz => by
        rcases List.mem_cons.1 hz with e | e
        · subst e; exact c
        · exact kLe.trans c (h1 z e), h⟩
    · rename_i c
      refine List.pairwise_cons.2 ⟨fun z hz => ?_, insB_srt h2⟩
      rcases List.mem_cons.1 ((insB_perm key x l).mem_iff.1 hz) with e | e
      · subst e; unfold kLe; omega
      · exact h1 z e
theorem sortB_ok (key : Int → Int) : ∀ l, (sortB key l).Perm l ∧ Srt key (sortB key l)
  | [] => ⟨List.Perm.refl _, List.Pairwise.nil⟩
  | x :: l => ⟨(insB_perm key x _).trans (List.Perm.cons x (sortB_ok key l).1), insB_srt (sortB_ok key l).2⟩
/-- Whatever is sorted and has the same is it. -/
theorem sortB_is {key : Int → Int} {l M : List Int} (hp : M.Perm l) (hs : Srt key M) : M = sortB key l := srt_unique hs (sortB_ok key l).2 (hp.trans (sortB_ok key l).1.symm)

/-- The order of the first k operations. -/
def ordK (obj : Int) (os : List (Int × Int)) (k : Nat) : List Int := sortB (keyOf os) (addsOf obj os k) ++ othersOf obj os k
/-- The order of operations. -/
def ordL (obj : Int) (os : List (Int × Int)) : List Int := ordK obj os os.length

theorem ordK_length (obj : Int) (os : List (Int × Int)) (k : Nat) : (ordK obj os k).length = k := by
  unfold ordK
  rw [List.length_append, (sortB_ok _ _).1.length_eq]
  exact both_length obj os k
theorem ordK_perm (obj : Int) (os : List (Int × Int)) (k : Nat) : (ordK obj os k).Perm (idx k) := (List.Perm.append_right _ (sortB_ok _ _).1).trans (both_perm obj os k)
theorem ordL_length (obj : Int) (os : List (Int × Int)) : (ordL obj os).length = os.length := ordK_length _ _ _
theorem ordL_plain {obj : Int} {os : List (Int × Int)} (h : ¬ obj = 3) : ordL obj os = idx os.length := by
  unfold ordL ordK
  obtain ⟨h1, h2⟩ := adds_none (os := os) (k := os.length) h
  rw [h1, h2]
  rfl
theorem mem_ordL {obj : Int} {os : List (Int × Int)} {x : Int} : x ∈ ordL obj os ↔ 0 ≤ x ∧ x < os.length := (ordK_perm obj os os.length).mem_iff.trans mem_idx
theorem ordL_at {obj : Int} {os : List (Int × Int)} {i : Nat} (h : i < os.length) : 0 ≤ (ordL obj os).getD i 0 ∧ (ordL obj os).getD i 0 < os.length :=
  (mem_ordL (obj := obj)).1 (by simp [List.getD, show i < (ordL obj os).length by rw [ordL_length]; exact h])

end Go.Proofs.YtniefplgijpckaaGreat
namespace Go.Proofs.YtniefplgijpckaaGreat

/-- Does an operation of a heap come ahead of another one, which stands behind it? -/
def lessO (a b : Int × Int) : Bool := if a.1 = 1 ∧ b.1 = 1 then decide (a.2 ≤ b.2) else decide (a.1 = 1 ∨ ¬ b.1 = 1)
/-- By their places. -/
def lessB (os : List (Int × Int)) (i k : Int) : Bool := lessO (os.getD i.toNat (0, 0)) (os.getD k.toNat (0, 0))

theorem isAdd_three {os : List (Int × Int)} {i : Int} : isAdd 3 os i = true ↔ (os.getD i.toNat (0, 0)).1 = 1 := by simp [isAdd]
theorem isAdd_not {os : List (Int × Int)} {i : Int} : isAdd 3 os i = false ↔ ¬ (os.getD i.toNat (0, 0)).1 = 1 := by simp [isAdd]

theorem lessO_last {a b : Int × Int} (h : ¬ b.1 = 1) : lessO a b = true := by unfold lessO; rw [if_neg (fun c => h c.2)]; exact decide_eq_true (.inr h)
theorem lessO_other {a b : Int × Int} (ha : ¬ a.1 = 1) (hb : b.1 = 1) : lessO a b = false := by
  unfold lessO
  rw [if_neg (fun c => ha c.1)]
  exact decide_eq_false (fun h => h.elim ha (fun g => g hb))

theorem ord_behind {obj : Int} {os : List (Int × Int)} {k : Nat} (h : isAdd obj os k = false) : ordK obj os k ++ [(k : Int)] = ordK obj os (k + 1) := by
  unfold ordK
  obtain ⟨h1, h2⟩ := adds_no h
  rw [h1, h2, List.append_assoc]

theorem ord_insert {os : List (Int × Int)} {k e : Nat} (ha : e ≤ k) (h1 : ∀ j, e ≤ j → j < k → lessB os ((ordK 3 os k).getD j 0) k = false) (h2 : e = 0 ∨ lessB os ((ordK 3 os k).getD (e - 1) 0) k = true) :
    ((ordK 3 os k).take e ++ [(k : Int)]) ++ (ordK 3 os k).drop e = ordK 3 os (k + 1) := by
  have hl : (ordK 3 os k).length = k := ordK_length 3 os k
  cases hk : isAdd 3 os k with
  | false =>
    have he : e = k := by
      rcases Nat.lt_or_ge e k with h | h
      · have c := h1 e (Nat.le_refl _) h
        have hk2 := isAdd_not.1 hk
        unfold lessB at c
        rw [lessO_last hk2] at c
        cases c
      · omega
    subst he
    rw [List.take_of_length_le (by omega), List.drop_eq_nil_of_le (by omega), List.append_nil]
    exact ord_behind hk
  | true =>
    have hk1 := isAdd_three.1 hk
    have hAl : (sortB (keyOf os) (addsOf 3 os k)).length + (othersOf 3 os k).length = k := by rw [(sortB_ok _ _).1.length_eq]; exact both_length 3 os k
    have hAm : ∀ x ∈ sortB (keyOf os) (addsOf 3 os k), (os.getD x.toNat (0, 0)).1 = 1 ∧ x ≤ (k : Int) := fun x hx => by
      have := List.mem_filter.1 ((sortB_ok _ _).1.mem_iff.1 hx)
      exact ⟨isAdd_three.1 this.2, by have := mem_idx.1 this.1; omega⟩
    have hOm : ∀ x ∈ othersOf 3 os k, ¬ (os.getD x.toNat (0, 0)).1 = 1 := fun x hx => by
      have := (List.mem_filter.1 hx).2
      exact isAdd_not.1 (by simpa using this)
    have hs := (sortB_ok (keyOf os) (addsOf 3 os k)).2
    have hp := (sortB_ok (keyOf os) (addsOf 3 os k)).1
    have eK : ordK 3 os k = sortB (keyOf os) (addsOf 3 os k) ++ othersOf 3 os k := rfl
    have eN : ordK 3 os (k + 1) = sortB (keyOf os) (addsOf 3 os (k + 1)) ++ othersOf 3 os (k + 1) := rfl
    obtain ⟨a1, a2⟩ := adds_yes hk
    rw [eN, a1, a2]
    rw [eK] at h1 h2 ⊢
    generalize sortB (keyOf os) (addsOf 3 os k) = A at *
    generalize othersOf 3 os k = O at *
    have he : e ≤ A.length := by
      rcases Nat.lt_or_ge A.length e with h | h
      · rcases h2 with h2 | h2
        · omega
        · have hm : (A ++ O).getD (e - 1) 0 ∈ O := by
            have hj : e - 1 - A.length < O.length := by omega
            simp [List.getD, List.getElem?_append_right (show A.length ≤ e - 1 by omega), hj]
          have hn := hOm _ hm
          unfold lessB at h2
          rw [lessO_other hn hk1] at h2
          cases h2
      · exact h
    rw [List.take_append_of_le_length he, List.drop_append_of_le_length he, ← List.append_assoc]
    congr 1
    refine sortB_is ?_ ?_
    · refine (List.Perm.append_right _ List.perm_append_comm).trans ?_
      rw [List.append_assoc, List.take_append_drop]
      exact (List.Perm.cons _ hp).trans (List.perm_append_singleton _ _).symm
    · have hc1 : ∀ x ∈ A.take e, kLe (keyOf os) x k := by
        intro x hx
        rcases h2 with h2 | h2
        · subst h2; simp at hx
        · rcases Nat.eq_zero_or_pos e with h0 | h0
          · subst h0; simp at hx
          · have hj : e - 1 < A.length := by omega
            have t := hs.take_le (k := e - 1) hj x (by rw [show e - 1 + 1 = e by omega]; exact hx)
            have hx1 := hAm (A.getD (e - 1) 0) (by simp [List.getD, hj])
            have eg : (A ++ O).getD (e - 1) 0 = A.getD (e - 1) 0 := by simp [List.getD, List.getElem?_append_left hj]
            rw [eg] at h2
            unfold lessB lessO at h2
            rw [if_pos ⟨hx1.1, hk1⟩] at h2
            have h3 := of_decide_eq_true h2
            have h4 := hx1.2
            refine t.trans ?_
            unfold kLe keyOf
            omega
      have hc2 : ∀ y ∈ A.drop e, kLe (keyOf os) k y := by
        intro y hy
        rcases Nat.lt_or_ge e A.length with hj | hj
        · have t := hs.drop_ge hj y hy
          have hx1 := hAm (A.getD e 0) (by simp [List.getD, hj])
          have h3 := h1 e (Nat.le_refl _) (by omega)
          have eg : (A ++ O).getD e 0 = A.getD e 0 := by simp [List.getD, List.getElem?_append_left hj]
          rw [eg] at h3
          unfold lessB lessO at h3
          rw [if_pos ⟨hx1.1, hk1⟩] at h3
          have h4 := of_decide_eq_false h3
          refine kLe.trans ?_ t
          unfold kLe keyOf
          omega
        · rw [List.drop_eq_nil_of_le hj] at hy; simp at hy
      unfold Srt at hs ⊢
      rw [List.append_assoc]
      refine List.pairwise_append.2 ⟨List.Pairwise.sublist (List.take_sublist _ _) hs, List.pairwise_cons.2 ⟨hc2, List.Pairwise.sublist (List.drop_sublist _ _) hs⟩, ?_⟩
      intro x hx y hy
      rcases List.mem_cons.1 hy with h | h
      · subst h; exact hc1 x hx
      · exact (hc1 x hx).trans (hc2 y h)

end Go.Proofs.YtniefplgijpckaaGreat
