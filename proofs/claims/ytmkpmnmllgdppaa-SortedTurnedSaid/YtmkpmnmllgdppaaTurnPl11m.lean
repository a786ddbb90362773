/-
  A batch at a heap whose operations come the other way round: the same items stay, and as many are told each, in plain lists. Conditions: none; no Go function is looked at here.
-/
import Derived.Test.YtmkpmnmllgdppaaCoinsPl11m
import Derived.Test.YtmkpmnmllgdppaaLeastPl11m
namespace Go.Proofs.Ytmkpmnmllgdppaa
open Go.RowKit Go.Lib

def atO (os : List (Int × Int)) (i : Int) : Int × Int := os.getD i.toNat (0, 0)
theorem idx_map (os : List (Int × Int)) : (idx os.length).map (atO os) = os := by
  refine List.ext_getElem (by simp [idx]) fun i h1 h2 => ?_
  simp [idx, atO, List.getD, h2]
theorem ordO_perm (os : List (Int × Int)) : (ordO 3 os).Perm os := by
  have h := (ordK_perm 3 os os.length).map (atO os)
  rw [idx_map] at h
  exact h
/-- The values of those that put. -/
def avL (os : List (Int × Int)) : List Int := (os.filter (fun o => o.1 == 1)).map Prod.snd
theorem adds_vals (os : List (Int × Int)) : (addsOf 3 os os.length).map (keyOf os) = avL os := by
  unfold avL addsOf
  conv => rhs; rw [← idx_map os]
  rw [List.filter_map, List.map_map]
  have e1 : (isAdd 3 os) = ((fun o : Int × Int => o.1 == 1) ∘ atO os) := by funext i; simp [isAdd, atO]
  have e2 : keyOf os = Prod.snd ∘ atO os := by funext i; rfl
  rw [e1, e2]
theorem valsL_perm (os : List (Int × Int)) : (valsL os).Perm (avL os) := by
  rw [← adds_vals]
  exact (sortB_ok (keyOf os) (addsOf 3 os os.length)).1.map _
theorem up_unique {a b : List Int} (ha : a.Pairwise (· ≤ ·)) (hb : b.Pairwise (· ≤ ·)) (h : a.Perm b) : a = b := List.Perm.eq_of_pairwise (fun _ _ _ _ h1 h2 => by omega) ha hb h
theorem valsL_turned {os ps : List (Int × Int)} (h : ps.Perm os) : valsL ps = valsL os := by
  refine up_unique (valsL_up ps) (valsL_up os) ((valsL_perm ps).trans (List.Perm.trans ?_ (valsL_perm os).symm))
  exact (h.filter _).map _

theorem adds_ops (os : List (Int × Int)) : (ordO 3 os).take (addsL os).length = (valsL os).map (fun v => ((1 : Int), v)) := by
  have hn := ordO_len os
  refine List.ext_getElem (by simp [valsL_length]; omega) fun i h1 h2 => ?_
  simp only [List.length_map, valsL_length] at h2
  have h := ordO_add (os := os) h2
  rw [List.getElem_take, List.getElem_map]
  simpa [List.getD, show i < (ordO 3 os).length by omega, show i < (valsL os).length by rw [valsL_length]; exact h2] using h
theorem putZ_turned (m : Int) (zs : List Int) {os ps : List (Int × Int)} (h : ps.Perm os) : putZ m zs ps = putZ m zs os := by unfold putZ; rw [adds_ops, adds_ops, valsL_turned h]

def rest (os : List (Int × Int)) : List (Int × Int) := (ordO 3 os).drop (addsL os).length
theorem ord_parts (os : List (Int × Int)) : ordO 3 os = (valsL os).map (fun v => ((1 : Int), v)) ++ rest os := by
  rw [← adds_ops]
  exact (List.take_append_drop _ _).symm
def mins (ps : List (Int × Int)) : Nat := ps.countP (fun o => decide (o.1 = 2))
theorem mins_rest (os : List (Int × Int)) : mins (rest os) = mins os := by
  have h : mins (ordO 3 os) = mins os := (ordO_perm os).countP_eq _
  rw [ord_parts] at h
  unfold mins at *
  rw [List.countP_append, List.countP_eq_zero.2 (by intro o ho; obtain ⟨v, _, rfl⟩ := List.mem_map.1 ho; simp)] at h
  omega
theorem rest_len {os ps : List (Int × Int)} (h : ps.Perm os) : (rest ps).length = (rest os).length := by
  unfold rest
  have := congrArg List.length (valsL_turned h)
  rw [valsL_length, valsL_length] at this
  rw [List.length_drop, List.length_drop, ordO_length, ordO_length, h.length_eq, this]
theorem batZ_turned (m : Int) (zs : List Int) {os ps : List (Int × Int)} (h : ps.Perm os) : batZ 3 m zs ps = batZ 3 m zs os := by
  have e : ∀ os : List (Int × Int), minN os (othersL os).length = mins os := fun os => by
    rw [← mins_rest]
    unfold minN mins rest
    rw [List.take_of_length_le (by rw [List.length_drop, ordO_len]; omega)]
  rw [batZ_is, batZ_is, putZ_turned m zs h, e, e]
  congr 1
  exact h.countP_eq _

/-- What those that do not put are told, summed. -/
theorem others_sum (c m : Int) : ∀ (qs : List (Int × Int)) (Z : List Int), (∀ o ∈ qs, ¬ o.1 = 1) →
    sumF (isC c) (runT 3 m Z qs) = (if c = 2 then ((min Z.length (mins qs) : Nat) : Int) else 0) + (if c = 4 then ((mins qs - Z.length : Nat) : Int) else 0) + (if c = 5 then ((qs.length - mins qs : Nat) : Int) else 0)
  | [], Z, _ => by simp [runT, sumF, mins]
  | o :: qs, Z, h => by
    have h1 := h o (by simp)
    have ih := others_sum c m qs (objL 3 m Z o.1 o.2) (fun x hx => h x (by simp [hx]))
    have hle : mins qs ≤ qs.length := List.countP_le_length
    have e : sumF (isC c) (runT 3 m Z (o :: qs)) = isC c (objC 3 m Z o.1, objV 3 Z o.1) + sumF (isC c) (runT 3 m (objL 3 m Z o.1 o.2) qs) := by simp [runT, sumF]
    rw [e, ih]
    unfold objL objC hpL hpC isC
    simp only [if_neg (show ¬ (3 : Int) = 1 by omega), if_neg (show ¬ (3 : Int) = 2 by omega), if_true, if_neg h1]
    by_cases h2 : o.1 = 2
    · have em : mins (o :: qs) = mins qs + 1 := by unfold mins; rw [List.countP_cons_of_pos (by simpa using h2)]
      rw [em]
      simp only [if_pos h2, List.length_cons]
      cases Z with
      | nil =>
        simp only [List.tail_nil, List.length_nil, if_true]
        by_cases c2 : c = 2
        · subst c2; simp
        · by_cases c4 : c = 4
          · subst c4; simp; omega
          · by_cases c5 : c = 5
            · subst c5; simp
            · simp [c2, c4, c5]; omega
      | cons z Z =>
        simp only [List.tail_cons, List.length_cons, if_neg (List.cons_ne_nil z Z)]
        by_cases c2 : c = 2
        · subst c2; simp; omega
        · by_cases c4 : c = 4
          · subst c4; simp
          · by_cases c5 : c = 5
            · subst c5; simp
            · simp [c2, c4, c5]; omega
    · have em : mins (o :: qs) = mins qs := by unfold mins; rw [List.countP_cons_of_neg (by simpa using h2)]
      rw [em]
      simp only [if_neg h2, List.length_cons]
      by_cases c2 : c = 2
      · subst c2; simp
      · by_cases c4 : c = 4
        · subst c4; simp
        · by_cases c5 : c = 5
          · subst c5; simp; omega
          · simp [c2, c4, c5]; omega

/-- As many are told each. -/
theorem cnt_turned (c m : Int) (zs : List Int) {os ps : List (Int × Int)} (h : ps.Perm os) : cntC c (batT 3 m zs ps) os.length = cntC c (batT 3 m zs os) os.length := by
  have h1 := cntC_all c (batT 3 m zs os)
  have h2 := cntC_all c (batT 3 m zs ps)
  rw [batT_length] at h1 h2
  rw [h.length_eq] at h2
  have s1 := bat_sum (isC c) m zs os
  have s2 := bat_sum (isC c) m zs ps
  have e1 := ord_parts os
  have e2 := ord_parts ps
  rw [valsL_turned h] at e2
  have o1 := others_sum c m (rest os) (runZ 3 m zs ((valsL os).map (fun v => ((1 : Int), v)))) ordO_rest
  have o2 := others_sum c m (rest ps) (runZ 3 m zs ((valsL os).map (fun v => ((1 : Int), v)))) ordO_rest
  rw [mins_rest] at o1
  rw [mins_rest, rest_len h, show mins ps = mins os from h.countP_eq _] at o2
  rw [e1, runT_append, sumF_append, o1] at s1
  rw [e2, runT_append, sumF_append, o2] at s2
  omega

end Go.Proofs.Ytmkpmnmllgdppaa
