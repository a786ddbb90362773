/-
  The order of a batch has each place once, and what comes next may come next; what is told, put into its own places, has as many of a code. Conditions: none; no Go function is looked at here.
-/
import Derived.Test.YtniefplgijpckaaGreatOrdA12
namespace Go.Proofs.YtniefplgijpckaaGreat

/-- May an operation of a heap come next behind another one? By what they ask, and their places. -/
def fineO (a b : Int × Int) (p q : Int) : Prop := (a.1 = 1 ∧ b.1 = 1 ∧ (a.2 < b.2 ∨ (a.2 = b.2 ∧ p < q))) ∨ (a.1 = 1 ∧ ¬ b.1 = 1) ∨ (¬ a.1 = 1 ∧ ¬ b.1 = 1 ∧ p < q)

theorem idx_nodup (k : Nat) : (idx k).Nodup := (idx_rise k).imp (fun h => by omega)
theorem ordL_nodup (obj : Int) (os : List (Int × Int)) : (ordL obj os).Nodup := (ordK_perm obj os os.length).nodup_iff.2 (idx_nodup _)

theorem ordL_pair (os : List (Int × Int)) : (ordL 3 os).Pairwise fun p q => fineO (os.getD p.toNat (0, 0)) (os.getD q.toNat (0, 0)) p q := by
  have hn := ordL_nodup 3 os
  unfold ordL ordK at hn ⊢
  obtain ⟨hp, hs⟩ := sortB_ok (keyOf os) (addsOf 3 os os.length)
  have hA : ∀ x ∈ sortB (keyOf os) (addsOf 3 os os.length), (os.getD x.toNat (0, 0)).1 = 1 := fun x hx => by
    have := (List.mem_filter.1 (hp.mem_iff.1 hx)).2
    simpa [isAdd] using this
  have hO : ∀ x ∈ othersOf 3 os os.length, ¬ (os.getD x.toNat (0, 0)).1 = 1 := fun x hx => by
    have := (List.mem_filter.1 hx).2
    simpa [isAdd] using this
  have hr : (othersOf 3 os os.length).Pairwise (· < ·) := List.Pairwise.filter _ (idx_rise _)
  generalize sortB (keyOf os) (addsOf 3 os os.length) = A at *
  generalize othersOf 3 os os.length = O at *
  have hnA : A.Nodup := (List.nodup_append.1 hn).1
  refine List.pairwise_append.2 ⟨?_, ?_, fun x hx y hy => .inr (.inl ⟨hA x hx, hO y hy⟩)⟩
  · refine List.Pairwise.imp_of_mem (R := fun a b => kLe (keyOf os) a b ∧ a ≠ b) ?_ (List.pairwise_and_iff.2 ⟨hs, hnA⟩)
    rintro a b ha hb ⟨h1, h2⟩
    refine .inl ⟨hA a ha, hA b hb, ?_⟩
    unfold kLe keyOf at h1
    omega
  · refine List.Pairwise.imp_of_mem ?_ hr
    intro a b ha hb h
    exact .inr (.inr ⟨hO a ha, hO b hb, h⟩)

theorem ordL_next {os : List (Int × Int)} {k : Nat} (h : k + 1 < os.length) : fineO (os.getD ((ordL 3 os).getD k 0).toNat (0, 0)) (os.getD ((ordL 3 os).getD (k + 1) 0).toNat (0, 0)) ((ordL 3 os).getD k 0) ((ordL 3 os).getD (k + 1) 0) := by
  have hl := ordL_length 3 os
  have h1 : k < (ordL 3 os).length := by omega
  have h2 : k + 1 < (ordL 3 os).length := by omega
  have := List.pairwise_iff_getElem.1 (ordL_pair os) k (k + 1) h1 h2 (by omega)
  have e1 : (ordL 3 os).getD k 0 = (ordL 3 os)[k] := by simp [List.getD, h1]
  have e2 : (ordL 3 os).getD (k + 1) 0 = (ordL 3 os)[k + 1] := by simp [List.getD, h2]
  rw [e1, e2]
  exact this

/-- What has been seen. -/
def seenK (l : List Int) (n : Nat) : Nat → List Bool
  | 0 => List.replicate n false
  | k + 1 => (seenK l n k).set (l.getD k 0).toNat true
theorem seenK_length (l : List Int) (n : Nat) : ∀ k, (seenK l n k).length = n
  | 0 => by simp [seenK]
  | k + 1 => by simp [seenK, seenK_length l n k]
theorem seenK_not {l : List Int} {n : Nat} (hd : l.Nodup) (hb : ∀ x ∈ l, 0 ≤ x ∧ x < (n : Int)) : ∀ (k j : Nat), k ≤ j → j < l.length → (seenK l n k).getD (l.getD j 0).toNat false = false
  | 0, j, _, _ => by
    unfold seenK
    simp [List.getD, List.getElem?_replicate]
    split <;> rfl
  | k + 1, j, hk, hj => by
    have ih := seenK_not hd hb k j (by omega) hj
    have hkl : k < l.length := by omega
    have e1 : l.getD k 0 = l[k] := by simp [List.getD, hkl]
    have e2 : l.getD j 0 = l[j] := by simp [List.getD, hj]
    have ne : l[k] ≠ l[j] := by
      have := List.pairwise_iff_getElem.1 hd k j hkl hj (by omega)
      exact this
    have b1 := hb l[k] (List.getElem_mem hkl)
    have b2 := hb l[j] (List.getElem_mem hj)
    have ne2 : (l.getD k 0).toNat ≠ (l.getD j 0).toNat := by rw [e1, e2]; omega
    unfold seenK
    rw [List.getD_eq_getElem?_getD, List.getElem?_set_ne ne2, ← List.getD_eq_getElem?_getD]
    exact ih

end Go.Proofs.YtniefplgijpckaaGreat
