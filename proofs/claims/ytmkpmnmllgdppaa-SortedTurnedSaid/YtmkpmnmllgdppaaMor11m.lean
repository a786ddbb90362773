/-
  What is told at each place of a batch at a heap, and what stays, in plain lists: who puts first, then who takes; how many are told what. Conditions: none; no Go function is looked at here.
-/
import Derived.Test.YtmkpmnmllgdppaaKnA11
import Derived.Test.YtmkpmnmllgdppaaOrdFine11m
namespace Go.Proofs.Ytmkpmnmllgdppaa
open Go.RowKit Go.Lib

theorem placeK_at {l : List Int} {t : List (Int × Int)} {n : Nat} (hd : l.Nodup) (hb : ∀ x ∈ l, 0 ≤ x ∧ x < (n : Int)) (hl : l.length = n) : ∀ k i, k ≤ n → i < k → (placeK l t n k).getD (l.getD i 0).toNat (0, 0) = t.getD i (0, 0)
  | 0, i, _, h => by omega
  | k + 1, i, hk, h => by
    have hkl : k < l.length := by omega
    have hil : i < l.length := by omega
    have e1 : l.getD k 0 = l[k] := by simp [List.getD, hkl]
    have e2 : l.getD i 0 = l[i] := by simp [List.getD, hil]
    have b1 := hb l[k] (List.getElem_mem hkl)
    have b2 := hb l[i] (List.getElem_mem hil)
    unfold placeK
    rcases Nat.lt_or_ge i k with h1 | h1
    · have ne : l[i] ≠ l[k] := List.pairwise_iff_getElem.1 hd i k hil hkl h1
      have ne2 : (l.getD k 0).toNat ≠ (l.getD i 0).toNat := by rw [e1, e2]; omega
      rw [List.getD_eq_getElem?_getD, List.getElem?_set_ne ne2, ← List.getD_eq_getElem?_getD]
      exact placeK_at hd hb hl k i (by omega) h1
    · obtain rfl : i = k := by omega
      have hlt : (l.getD i 0).toNat < (placeK l t n i).length := by rw [placeK_length, e2]; omega
      rw [List.getD_eq_getElem?_getD, List.getElem?_set_self hlt]
      rfl

/-- What a batch tells at a place of the order. -/
theorem batT_at (m : Int) (zs : List Int) (os : List (Int × Int)) {k : Nat} (h : k < os.length) : (batT 3 m zs os).getD ((ordL 3 os).getD k 0).toNat (0, 0) = (runT 3 m zs (ordO 3 os)).getD k (0, 0) :=
  placeK_at (ordL_nodup 3 os) (fun _ hx => mem_ordL.1 hx) (ordL_length 3 os) os.length k (Nat.le_refl _) h
/-- Each place is one of the order. -/
theorem ord_place (os : List (Int × Int)) {i : Nat} (h : i < os.length) : ∃ k, k < os.length ∧ (ordL 3 os).getD k 0 = (i : Int) := by
  have hm : (i : Int) ∈ ordL 3 os := mem_ordL.2 ⟨by omega, by omega⟩
  obtain ⟨k, hk, e⟩ := List.getElem_of_mem hm
  rw [ordL_length] at hk
  exact ⟨k, hk, by simp [List.getD, show k < (ordL 3 os).length by rw [ordL_length]; exact hk, e]⟩

theorem perm_sum {a b : List Int} (h : a.Perm b) : a.sum = b.sum := by
  induction h with
  | nil => rfl
  | cons x _ ih => simp [ih]
  | swap x y l => simp only [List.sum_cons]; omega
  | trans _ _ h1 h2 => exact h1.trans h2
/-- What is summed over places is summed over the order. -/
def sumF (f : Int × Int → Int) (l : List (Int × Int)) : Int := (l.map f).sum
theorem sumF_succ (f : Int × Int → Int) {l : List (Int × Int)} {k : Nat} (h : k < l.length) : sumF f (l.take (k + 1)) = sumF f (l.take k) + f (l.getD k (0, 0)) := by
  have e : l.getD k (0, 0) = l[k] := by simp [List.getD, h]
  rw [e, List.take_succ_eq_append_getElem h]
  unfold sumF
  rw [List.map_append, List.sum_append]
  simp
theorem sumF_append (f : Int × Int → Int) (a b : List (Int × Int)) : sumF f (a ++ b) = sumF f a + sumF f b := by simp [sumF]
theorem bat_sum (f : Int × Int → Int) (m : Int) (zs : List Int) (os : List (Int × Int)) : sumF f (batT 3 m zs os) = sumF f (runT 3 m zs (ordO 3 os)) := by
  have hl := ordL_length 3 os
  have hp : (ordL 3 os).Perm (idx os.length) := ordK_perm 3 os os.length
  have hT : (runT 3 m zs (ordO 3 os)).length = os.length := by rw [runT_length]; simp [ordO, hl]
  have hat := fun i hi => batT_at m zs os (k := i) hi
  have hPl := batT_length 3 m zs os
  generalize runT 3 m zs (ordO 3 os) = T at *
  generalize batT 3 m zs os = P at *
  generalize ordL 3 os = L at *
  generalize os.length = n at *
  have e1 : sumF f P = ((idx n).map fun j => f (P.getD j.toNat (0, 0))).sum := by
    unfold sumF
    congr 1
    refine List.ext_getElem (by simp [idx, hPl]) fun i h1 h2 => ?_
    have hi : i < P.length := by simpa using h1
    simp [idx, List.getD, hi]
  have e2 : sumF f T = (L.map fun j => f (P.getD j.toNat (0, 0))).sum := by
    unfold sumF
    congr 1
    refine List.ext_getElem (by simp [hT, hl]) fun i h1 h2 => ?_
    have hi : i < T.length := by simpa using h1
    have hil : i < L.length := by omega
    have := hat i (by omega)
    have e3 : L.getD i 0 = L[i] := by simp [List.getD, hil]
    rw [e3] at this
    simp only [List.getElem_map, this]
    simp [List.getD, hi]
  rw [e1, e2]
  exact (perm_sum (hp.map _)).symm

/-- Items behind those that put; how many of the first j that do not put take. -/
def putZ (m : Int) (zs : List Int) (os : List (Int × Int)) : List Int := runZ 3 m zs ((ordO 3 os).take (addsL os).length)
def minN (os : List (Int × Int)) (j : Nat) : Nat := (((ordO 3 os).drop (addsL os).length).take j).countP (fun o => decide (o.1 = 2))
theorem run_others (m : Int) : ∀ (ps : List (Int × Int)) (zs : List Int), (∀ o ∈ ps, ¬ o.1 = 1) → runZ 3 m zs ps = zs.drop (ps.countP (fun o => decide (o.1 = 2)))
  | [], zs, _ => by simp [runZ]
  | o :: ps, zs, h => by
    have h1 := h o (by simp)
    show runZ 3 m (objL 3 m zs o.1 o.2) ps = _
    rw [run_others m ps _ (fun x hx => h x (by simp [hx]))]
    unfold objL hpL
    simp only [if_neg (show ¬ (3 : Int) = 1 by omega), if_neg (show ¬ (3 : Int) = 2 by omega), if_true, if_neg h1]
    by_cases h2 : o.1 = 2
    · rw [if_pos h2, List.countP_cons_of_pos (by simpa using h2), ← List.drop_one, List.drop_drop, Nat.add_comm]
    · rw [if_neg h2, List.countP_cons_of_neg (by simpa using h2)]
theorem ordO_len (os : List (Int × Int)) : (ordO 3 os).length = (addsL os).length + (othersL os).length := by rw [ordO_length, parts_length]
theorem ordO_rest {os : List (Int × Int)} : ∀ o ∈ (ordO 3 os).drop (addsL os).length, ¬ o.1 = 1 := by
  intro o ho
  obtain ⟨j, hj, e⟩ := List.getElem_of_mem ho
  rw [List.length_drop, ordO_len] at hj
  rw [List.getElem_drop] at e
  have hjo : j < (othersL os).length := by omega
  have h1 := ordO_other hjo
  have e2 : (ordO 3 os).getD ((addsL os).length + j) (0, 0) = o := by rw [← e]; simp [List.getD, show (addsL os).length + j < (ordO 3 os).length by rw [ordO_len]; omega]
  rw [← e2, h1]
  exact (othersL_at hjo).2.2
theorem run_more (m : Int) (zs : List Int) (os : List (Int × Int)) (j : Nat) : runZ 3 m zs ((ordO 3 os).take ((addsL os).length + j)) = (putZ m zs os).drop (minN os j) := by
  rw [List.take_add, runZ_append]
  exact run_others m _ _ (fun o ho => ordO_rest o (List.mem_of_mem_take ho))
theorem batZ_is (m : Int) (zs : List Int) (os : List (Int × Int)) : batZ 3 m zs os = (putZ m zs os).drop (minN os (othersL os).length) := by
  have := run_more m zs os (othersL os).length
  rw [List.take_of_length_le (by rw [ordO_len]; exact Nat.le_refl _)] at this
  exact this

/-- What one that puts is told. -/
theorem told_add {m : Int} {l : List It} (os : List (Int × Int)) (hl : (l.length : Int) ≤ m) {k : Nat} (hk : k < (addsL os).length) : (batT 3 m (vals l) os).getD ((addsL os).getD k 0).toNat (0, 0) = (if k < roomS m l os then 1 else 3, 0) := by
  have hn := parts_length os
  have e : (ordL 3 os).getD k 0 = (addsL os).getD k 0 := by rw [ordL_parts]; exact getD_left _ _ _ hk
  have h := batT_at m (vals l) os (k := k) (by omega)
  rw [e] at h
  rw [h, adds_told [] os hl hk]
  have et : (toldB (roomS m l os) (addsL os).length).getD k false = decide (k < roomS m l os) := by
    unfold toldB
    by_cases h : k < roomS m l os
    · simp [List.getD, List.getElem?_append, h]
    · simp only [List.getD, List.getElem?_append, List.length_replicate, if_neg h, List.getElem?_replicate]
      split <;> simp [h]
  rw [et]
  by_cases h : k < roomS m l os <;> simp [h]
/-- What one that does not put is told. -/
theorem told_other (m : Int) (zs : List Int) (os : List (Int × Int)) {j : Nat} (hj : j < (othersL os).length) : (batT 3 m zs os).getD ((othersL os).getD j 0).toNat (0, 0) = (hpC m ((putZ m zs os).drop (minN os j)) (os.getD ((othersL os).getD j 0).toNat (0, 0)).1, hpV ((putZ m zs os).drop (minN os j)) (os.getD ((othersL os).getD j 0).toNat (0, 0)).1) := by
  have hn := parts_length os
  have e : (ordL 3 os).getD ((addsL os).length + j) 0 = (othersL os).getD j 0 := by rw [ordL_parts]; exact getD_at _ _ _
  have h := batT_at m zs os (k := (addsL os).length + j) (by omega)
  rw [e] at h
  rw [h, runT_at _ _ _ _ (by rw [ordO_length]; omega), ordO_other hj, run_more]
  unfold objC objV
  simp only [if_neg (show ¬ (3 : Int) = 1 by omega), if_neg (show ¬ (3 : Int) = 2 by omega), if_true]
/-- Each place puts, or does not. -/
theorem place_way (os : List (Int × Int)) {i : Nat} (h : i < os.length) : (∃ k, k < (addsL os).length ∧ (addsL os).getD k 0 = (i : Int)) ∨ ∃ j, j < (othersL os).length ∧ (othersL os).getD j 0 = (i : Int) := by
  obtain ⟨k, hk, e⟩ := ord_place os h
  have hn := parts_length os
  rw [ordL_parts] at e
  rcases Nat.lt_or_ge k (addsL os).length with h1 | h1
  · rw [getD_left _ _ _ h1] at e; exact .inl ⟨k, h1, e⟩
  · obtain ⟨j, rfl⟩ : ∃ j, k = (addsL os).length + j := ⟨k - (addsL os).length, by omega⟩
    rw [getD_at] at e
    exact .inr ⟨j, by omega, e⟩

end Go.Proofs.Ytmkpmnmllgdppaa
