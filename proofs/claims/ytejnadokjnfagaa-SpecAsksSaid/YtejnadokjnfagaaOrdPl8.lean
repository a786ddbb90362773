/-
  The order of a batch in plain lists: places, which of them put into a heap, sorted by their values, and then all others. Conditions: none; no Go function is looked at here.
-/
import Derived.Test.YtejnadokjnfagaaIns8
namespace Go.Proofs.Ytejnadokjnfagaa

/-- The places 0, 1 and so on. -/
def idx (k : Nat) : List Int := (List.range k).map Int.ofNat
/-- Does the operation in this place put into a heap? -/
def isAdd (obj : Int) (os : List (Int × Int)) (i : Int) : Bool := obj == 3 && (os.getD i.toNat (0, 0)).1 == 1
def addsOf (obj : Int) (os : List (Int × Int)) (k : Nat) : List Int := (idx k).filter (isAdd obj os)
def othersOf (obj : Int) (os : List (Int × Int)) (k : Nat) : List Int := (idx k).filter (fun i => !isAdd obj os i)

theorem idx_succ (k : Nat) : idx (k + 1) = idx k ++ [(k : Int)] := by unfold idx; rw [List.range_succ]; simp
theorem idx_length (k : Nat) : (idx k).length = k := by simp [idx]
theorem mem_idx {k : Nat} {x : Int} : x ∈ idx k ↔ 0 ≤ x ∧ x < k := by
  unfold idx
  simp only [List.mem_map, List.mem_range]
  constructor
  · rintro ⟨i, hi, rfl⟩; simp; omega
  · rintro ⟨h1, h2⟩; exact ⟨x.toNat, by omega, by simp; omega⟩
theorem idx_rise (k : Nat) : (idx k).Pairwise (· < ·) := by
  unfold idx
  rw [List.pairwise_map]
  exact (List.pairwise_lt_range (n := k)).imp (fun h => by simpa using h)
theorem idx_getD {k i : Nat} (h : i < k) : (idx k).getD i 0 = i := by simp [idx, List.getD, h]

section
variable {obj : Int} {os : List (Int × Int)} {k : Nat}
theorem adds_yes (h : isAdd obj os k = true) : addsOf obj os (k + 1) = addsOf obj os k ++ [(k : Int)] ∧ othersOf obj os (k + 1) = othersOf obj os k := by
  unfold addsOf othersOf; rw [idx_succ, List.filter_append, List.filter_append]; simp [h]
theorem adds_no (h : isAdd obj os k = false) : addsOf obj os (k + 1) = addsOf obj os k ∧ othersOf obj os (k + 1) = othersOf obj os k ++ [(k : Int)] := by
  unfold addsOf othersOf; rw [idx_succ, List.filter_append, List.filter_append]; simp [h]
theorem adds_rise (obj : Int) (os : List (Int × Int)) (k : Nat) : Rises k (addsOf obj os k) :=
  ⟨List.Pairwise.filter _ (idx_rise k), fun _ hx => mem_idx.1 (List.mem_filter.1 hx).1⟩
theorem both_perm (obj : Int) (os : List (Int × Int)) (k : Nat) : (addsOf obj os k ++ othersOf obj os k).Perm (idx k) := List.filter_append_perm _ _
theorem both_length (obj : Int) (os : List (Int × Int)) (k : Nat) : (addsOf obj os k).length + (othersOf obj os k).length = k := by
  have := (both_perm obj os k).length_eq
  rw [List.length_append, idx_length] at this
  exact this
theorem adds_none (h : ¬ obj = 3) : addsOf obj os k = [] ∧ othersOf obj os k = idx k := by
  have h1 : ∀ i, isAdd obj os i = false := fun i => by simp [isAdd, h]
  unfold addsOf othersOf
  simp [h1]
end

/-- One more among what is sorted. -/
def insB (key : Int → Int) (x : Int) : List Int → List Int
  | [] => [x]
  | y :: l => if key x < key y ∨ (key x = key y ∧ x ≤ y) then x :: y :: l else y :: insB key x l
def sortB (key : Int → Int) : List Int → List Int
  | [] => []
  | x :: l => insB key x (sortB key l)

theorem insB_perm (key : Int → Int) (x : Int) : ∀ l, (insB key x l).Perm (x :: l)
  | [] => List.Perm.refl _
  | y :: l => by
    unfold insB
    split
    · exact List.Perm.refl _
    · exact (List.Perm.cons y (insB_perm key x l)).trans (List.Perm.swap x y l)
theorem insB_srt {key : Int → Int} {x : Int} : ∀ {l}, Srt key l → Srt key (insB key x l)
  | [], _ => srt_one x
  | y :: l, h => by
    unfold insB
    obtain ⟨h1, h2⟩ := List.pairwise_cons.1 h
    split
    · rename_i c
      exact List.pairwise_cons.2 ⟨fun z hz => by
        rcases List.mem_cons.1 hz with e | e
        · subst e; exact c
        · exact kLe.trans c (h1 z e), h⟩
    · rename_i c
      refine List.pairwise_cons.2 ⟨fun z hz => ?_, insB_srt h2⟩
      rcases List.mem_cons.1 ((insB_perm key x l).mem_iff.1 hz) with e | e
      · subst e; unfold kLe; omega
      · exact h1 z e
theorem sortB_ok (key : Int → Int) : ∀ l, (sortB key l).Perm l ∧ Srt key (sortB key l)
  | [] => ⟨List.Perm.refl _, List.Pairwise.nil⟩
  | x :: l => ⟨(insB_perm key x _).trans (List.Perm.cons x (sortB_ok key l).1), insB_srt (sortB_ok key l).2⟩
/-- Whatever is sorted and has the same is it. -/
theorem sortB_is {key : Int → Int} {l M : List Int} (hp : M.Perm l) (hs : Srt key M) : M = sortB key l := srt_unique hs (sortB_ok key l).2 (hp.trans (sortB_ok key l).1.symm)

/-- The order of the first k operations. -/
def ordK (obj : Int) (os : List (Int × Int)) (k : Nat) : List Int := sortB (keyOf os) (addsOf obj os k) ++ othersOf obj os k
/-- The order of operations. -/
def ordL (obj : Int) (os : List (Int × Int)) : List Int := ordK obj os os.length

theorem ordK_length (obj : Int) (os : List (Int × Int)) (k : Nat) : (ordK obj os k).length = k := by
  unfold ordK
  rw [List.length_append, (sortB_ok _ _).1.length_eq]
  exact both_length obj os k
theorem ordK_perm (obj : Int) (os : List (Int × Int)) (k : Nat) : (ordK obj os k).Perm (idx k) := (List.Perm.append_right _ (sortB_ok _ _).1).trans (both_perm obj os k)
theorem ordL_length (obj : Int) (os : List (Int × Int)) : (ordL obj os).length = os.length := ordK_length _ _ _
theorem ordL_plain {obj : Int} {os : List (Int × Int)} (h : ¬ obj = 3) : ordL obj os = idx os.length := by
  unfold ordL ordK
  obtain ⟨h1, h2⟩ := adds_none (os := os) (k := os.length) h
  rw [h1, h2]
  rfl
theorem mem_ordL {obj : Int} {os : List (Int × Int)} {x : Int} : x ∈ ordL obj os ↔ 0 ≤ x ∧ x < os.length := (ordK_perm obj os os.length).mem_iff.trans mem_idx
theorem ordL_at {obj : Int} {os : List (Int × Int)} {i : Nat} (h : i < os.length) : 0 ≤ (ordL obj os).getD i 0 ∧ (ordL obj os).getD i 0 < os.length :=
  (mem_ordL (obj := obj)).1 (by simp [List.getD, show i < (ordL obj os).length by rw [ordL_length]; exact h])

end Go.Proofs.Ytejnadokjnfagaa
