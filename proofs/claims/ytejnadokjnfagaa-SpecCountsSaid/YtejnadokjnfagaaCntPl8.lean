/-
  How many more items there are behind operations, by what these were told, in plain lists. Conditions: none; no Go function is looked at here.
-/
import Derived.Test.YtejnadokjnfagaaBatch8
import Derived.Test.YtejnadokjnfagaaOrdFine8
namespace Go.Proofs.Ytejnadokjnfagaa

/-- By how much there are more, by a code. -/
def cnt (c : Int) : Int := if c = 1 then 1 else if c = 2 then -1 else 0
def sumC (l : List (Int × Int)) : Int := (l.map fun o => cnt o.1).sum

theorem sumC_succ {l : List (Int × Int)} {k : Nat} (h : k < l.length) : sumC (l.take (k + 1)) = sumC (l.take k) + cnt (l.getD k (0, 0)).1 := by
  have e : l.getD k (0, 0) = l[k] := by simp [List.getD, h]
  rw [e, List.take_succ_eq_append_getElem h]
  unfold sumC
  rw [List.map_append, List.sum_append]
  simp
theorem cnt_in (c : Int) : -1 ≤ cnt c ∧ cnt c ≤ 1 := by unfold cnt; split <;> (try split) <;> omega
theorem sumC_in (l : List (Int × Int)) : -(l.length : Int) ≤ sumC l ∧ sumC l ≤ l.length := by
  induction l with
  | nil => simp [sumC]
  | cons o l ih =>
    have := cnt_in o.1
    simp only [sumC, List.map_cons, List.sum_cons, List.length_cons] at ih ⊢
    omega

theorem objL_cnt (obj m : Int) (zs : List Int) (k x : Int) : ((objL obj m zs k x).length : Int) = zs.length + cnt (objC obj m zs k) := by
  have hf := fgt_le x zs
  have ht : ¬ zs = [] → 0 < zs.length := fun h => List.length_pos_iff.2 h
  by_cases e1 : obj = 1
  · simp only [objL, objC, e1, if_true, stkL, stkC]
    by_cases k1 : k = 1
    · by_cases h : (zs.length : Int) < m <;> simp [k1, h, cnt]
    · by_cases k2 : k = 2
      · by_cases h : zs = []
        · simp [k2, h, cnt]
        · have := ht h
          simp [k2, h, cnt]; omega
      · simp [k1, k2, cnt]
  · by_cases e2 : obj = 2
    · simp only [objL, objC, e2, if_true, if_neg (show ¬ (2 : Int) = 1 by omega), dqL, dqC]
      by_cases k1 : k = 1
      · by_cases h : (zs.length : Int) < m <;> simp [k1, h, cnt]
      · by_cases k2 : k = 2
        · by_cases h : (zs.length : Int) < m <;> simp [k2, h, cnt]
        · by_cases k3 : k = 3
          · by_cases h : zs = []
            · simp [k3, h, cnt]
            · have := ht h
              simp [k3, h, cnt]; omega
          · by_cases k4 : k = 4
            · by_cases h : zs = []
              · simp [k4, h, cnt]
              · have := ht h
                simp [k4, h, cnt]; omega
            · simp [k1, k2, k3, k4, cnt]
    · by_cases e3 : obj = 3
      · simp only [objL, objC, e3, if_true, if_neg (show ¬ (3 : Int) = 1 by omega), if_neg (show ¬ (3 : Int) = 2 by omega), hpL, hpC]
        by_cases k1 : k = 1
        · by_cases h : (zs.length : Int) < m
          · simp [k1, h, cnt]; omega
          · simp [k1, h, cnt]
        · by_cases k2 : k = 2
          · by_cases h : zs = []
            · simp [k2, h, cnt]
            · have := ht h
              simp [k2, h, cnt]; omega
          · simp [k1, k2, cnt]
      · simp [objL, objC, e1, e2, e3, cnt]

theorem run_cnt (obj m : Int) : ∀ (os : List (Int × Int)) (zs : List Int), ((runZ obj m zs os).length : Int) = zs.length + sumC (runT obj m zs os)
  | [], zs => by simp [runZ, runT, sumC]
  | o :: os, zs => by
    have h1 := run_cnt obj m os (objL obj m zs o.1 o.2)
    have h2 := objL_cnt obj m zs o.1 o.2
    have e : sumC (runT obj m zs (o :: os)) = cnt (objC obj m zs o.1) + sumC (runT obj m (objL obj m zs o.1 o.2) os) := by simp [runT, sumC]
    have e2 : runZ obj m zs (o :: os) = runZ obj m (objL obj m zs o.1 o.2) os := rfl
    rw [e2, e]
    omega

theorem placeK_at {l : List Int} {t : List (Int × Int)} {n : Nat} (hd : l.Nodup) (hb : ∀ x ∈ l, 0 ≤ x ∧ x < (n : Int)) (hl : l.length = n) : ∀ k i, k ≤ n → i < k → (placeK l t n k).getD (l.getD i 0).toNat (0, 0) = t.getD i (0, 0)
  | 0, i, _, h => by omega
  | k + 1, i, hk, h => by
    have hkl : k < l.length := by omega
    have hil : i < l.length := by omega
    have e1 : l.getD k 0 = l[k] := by simp [List.getD, hkl]
    have e2 : l.getD i 0 = l[i] := by simp [List.getD, hil]
    have b1 := hb l[k] (List.getElem_mem hkl)
    have b2 := hb l[i] (List.getElem_mem hil)
    unfold placeK
    rcases Nat.lt_or_ge i k with h1 | h1
    · have ne : l[i] ≠ l[k] := List.pairwise_iff_getElem.1 hd i k hil hkl h1
      have ne2 : (l.getD k 0).toNat ≠ (l.getD i 0).toNat := by rw [e1, e2]; omega
      rw [List.getD_eq_getElem?_getD, List.getElem?_set_ne ne2, ← List.getD_eq_getElem?_getD]
      exact placeK_at hd hb hl k i (by omega) h1
    · obtain rfl : i = k := by omega
      have hlt : (l.getD i 0).toNat < (placeK l t n i).length := by rw [placeK_length, e2]; omega
      rw [List.getD_eq_getElem?_getD, List.getElem?_set_self hlt]
      rfl

theorem perm_sum {a b : List Int} (h : a.Perm b) : a.sum = b.sum := by
  induction h with
  | nil => rfl
  | cons x _ ih => simp [ih]
  | swap x y l => simp only [List.sum_cons]; omega
  | trans _ _ h1 h2 => exact h1.trans h2

theorem bat_cnt (obj m : Int) (zs : List Int) (os : List (Int × Int)) : sumC (batT obj m zs os) = sumC (runT obj m zs (ordO obj os)) := by
  have hd := ordL_nodup obj os
  have hb : ∀ x ∈ ordL obj os, 0 ≤ x ∧ x < (os.length : Int) := fun x hx => mem_ordL.1 hx
  have hl := ordL_length obj os
  have hp : (ordL obj os).Perm (idx os.length) := ordK_perm obj os os.length
  have hT : (runT obj m zs (ordO obj os)).length = os.length := by rw [runT_length]; simp [ordO, hl]
  unfold batT
  generalize runT obj m zs (ordO obj os) = T at *
  generalize ordL obj os = L at *
  generalize os.length = n at *
  have hat := placeK_at (t := T) hd hb hl n
  have hPl := placeK_length L T n n
  generalize placeK L T n n = P at *
  have e1 : sumC P = ((idx n).map fun j => cnt (P.getD j.toNat (0, 0)).1).sum := by
    unfold sumC
    congr 1
    refine List.ext_getElem (by simp [idx, hPl]) fun i h1 h2 => ?_
    have hi : i < P.length := by simpa using h1
    simp [idx, List.getD, hi]
  have e2 : sumC T = (L.map fun j => cnt (P.getD j.toNat (0, 0)).1).sum := by
    unfold sumC
    congr 1
    refine List.ext_getElem (by simp [hT, hl]) fun i h1 h2 => ?_
    have hi : i < T.length := by simpa using h1
    have hil : i < L.length := by omega
    have := hat i (Nat.le_refl _) (by omega)
    have e3 : L.getD i 0 = L[i] := by simp [List.getD, hil]
    rw [e3] at this
    simp only [List.getElem_map, this]
    simp [List.getD, hi]
  rw [e1, e2]
  exact (perm_sum (hp.map _)).symm

theorem bat_len (obj m : Int) (zs : List Int) (os : List (Int × Int)) : ((batZ obj m zs os).length : Int) = zs.length + sumC (batT obj m zs os) := by
  rw [bat_cnt]
  exact run_cnt obj m (ordO obj os) zs

end Go.Proofs.Ytejnadokjnfagaa
