/-
  How many a batch tells that they were done, and which bits it leaves, in plain lists; a batch without a list. Conditions: none; no Go function is looked at here.
-/
import Derived.Test.YtmkpmnmllgdppaaMor11m
namespace Go.Proofs.Ytmkpmnmllgdppaa
open Go.RowKit Go.Lib

/-- How many of the first k are told a code. -/
def cntC (c : Int) (T : List (Int × Int)) : Nat → Nat
  | 0 => 0
  | k + 1 => cntC c T k + if (T.getD k (0, 0)).1 = c then 1 else 0
theorem cntC_le (c : Int) (T : List (Int × Int)) : ∀ k, cntC c T k ≤ k
  | 0 => Nat.le_refl _
  | k + 1 => by have := cntC_le c T k; unfold cntC; split <;> omega
def isC (c : Int) (o : Int × Int) : Int := if o.1 = c then 1 else 0
theorem cntC_sum (c : Int) (T : List (Int × Int)) : ∀ k, k ≤ T.length → (cntC c T k : Int) = sumF (isC c) (T.take k)
  | 0, _ => rfl
  | k + 1, h => by
    rw [sumF_succ _ (by omega), ← cntC_sum c T k (by omega), cntC]
    unfold isC
    split <;> simp
theorem cntC_all (c : Int) (T : List (Int × Int)) : (cntC c T T.length : Int) = sumF (isC c) T := by rw [cntC_sum c T _ (Nat.le_refl _), List.take_length]

theorem hpC_other (m : Int) (zs : List Int) {kd : Int} (h : ¬ kd = 1) : hpC m zs kd = 2 ∨ hpC m zs kd = 4 ∨ hpC m zs kd = 5 := by
  unfold hpC
  rw [if_neg h]
  split
  · split <;> simp
  · simp

theorem bits_keep (m : Int) : ∀ (ps : List (Int × Int)) (s : List It × List Bool), (∀ o ∈ ps, ¬ o.1 = 1) → (runS m s ps).2 = s.2
  | [], _, _ => rfl
  | o :: ps, s, h => by
    show (runS m (stS m s o) ps).2 = s.2
    rw [bits_keep m ps _ (fun x hx => h x (by simp [hx]))]
    unfold stS
    rw [if_neg (h o (by simp))]
    split <;> rfl
theorem batS_bits {m : Int} {l : List It} (bs : List Bool) (os : List (Int × Int)) (hl : (l.length : Int) ≤ m) : (batS m (l, bs) os).2 = lefts bs (roomS m l os) := by
  unfold batS
  rw [← List.take_append_drop (addsL os).length (ordO 3 os), runS_append, bits_keep m _ _ ordO_rest, adds_all bs os hl]

theorem run_adds_done {m : Int} {l : List It} (os : List (Int × Int)) (hl : (l.length : Int) ≤ m) : ∀ k, k ≤ (addsL os).length → cntC 1 (runT 3 m (vals l) (ordO 3 os)) k = min k (roomS m l os)
  | 0, _ => by simp [cntC]
  | k + 1, hk => by
    have hn := parts_length os
    have e : (ordL 3 os).getD k 0 = (addsL os).getD k 0 := by rw [ordL_parts]; exact getD_left _ _ _ (by omega)
    have h := batT_at m (vals l) os (k := k) (by omega)
    rw [e, told_add os hl (by omega)] at h
    rw [cntC, run_adds_done os hl k (by omega), ← h]
    by_cases hr : k < roomS m l os
    · rw [if_pos hr, if_pos rfl]; omega
    · rw [if_neg hr, if_neg (by simp)]; omega
theorem run_all_done {m : Int} {l : List It} (os : List (Int × Int)) (hl : (l.length : Int) ≤ m) : ∀ j, j ≤ (othersL os).length → cntC 1 (runT 3 m (vals l) (ordO 3 os)) ((addsL os).length + j) = roomS m l os
  | 0, _ => by rw [Nat.add_zero, run_adds_done os hl _ (Nat.le_refl _)]; unfold roomS; omega
  | j + 1, hj => by
    have hn := parts_length os
    have e : (ordL 3 os).getD ((addsL os).length + j) 0 = (othersL os).getD j 0 := by rw [ordL_parts]; exact getD_at _ _ _
    have h := batT_at m (vals l) os (k := (addsL os).length + j) (by omega)
    rw [e, told_other m (vals l) os (by omega)] at h
    rw [← Nat.add_assoc, cntC, run_all_done os hl j (by omega), ← h]
    have ho := othersL_at (os := os) (k := j) (by omega)
    have hc := hpC_other m ((putZ m (vals l) os).drop (minN os j)) ho.2.2
    rw [if_neg (by show ¬ _ = _; simp only; omega)]
    rfl
/-- As many are done as there was room for. -/
theorem done_room {m : Int} {l : List It} (os : List (Int × Int)) (hl : (l.length : Int) ≤ m) : cntC 1 (batT 3 m (vals l) os) os.length = roomS m l os := by
  have hn := parts_length os
  have h1 := cntC_all 1 (batT 3 m (vals l) os)
  have h2 := cntC_all 1 (runT 3 m (vals l) (ordO 3 os))
  rw [batT_length] at h1
  rw [runT_length, ordO_length] at h2
  have h3 := bat_sum (isC 1) m (vals l) os
  have h4 := run_all_done os hl (othersL os).length (Nat.le_refl _)
  rw [hn] at h4
  omega

/-- Without a list. -/
theorem bat_nil_bits (bs : List Bool) (os : List (Int × Int)) : (batS 0 (([] : List It), bs) os).2 = bs := by
  rw [batS_bits bs os (by simp)]
  have : roomS 0 [] os = 0 := by unfold roomS; simp
  rw [this]
  rfl
theorem bat_nil_told (os : List (Int × Int)) {i : Nat} (hi : i < os.length) : 3 ≤ ((batT 3 0 [] os).getD i (0, 0)).1 := by
  rcases place_way os hi with ⟨k, hk, e⟩ | ⟨j, hj, e⟩
  · have ht := told_add (m := 0) (l := []) os (by simp) hk
    rw [e, Int.toNat_natCast, show vals ([] : List It) = [] from rfl] at ht
    rw [ht, if_neg (by unfold roomS; simp)]
    simp
  · have ht := told_other 0 [] os hj
    have ho := othersL_at hj
    have hz : putZ 0 [] os = [] := by
      have hp := runS_vals 0 ((ordO 3 os).take (addsL os).length) ([], [])
      have hl := runS_len (m := 0) ((ordO 3 os).take (addsL os).length) (s := ([], [])) (by simp)
      unfold putZ
      rw [show ([] : List Int) = vals ([] : List It) from rfl, ← hp]
      have : (runS 0 (([] : List It), ([] : List Bool)) ((ordO 3 os).take (addsL os).length)).1 = [] := List.eq_nil_of_length_eq_zero (by omega)
      rw [this]
    rw [e, Int.toNat_natCast, hz, List.drop_nil] at ht
    rw [ht]
    rw [e, Int.toNat_natCast] at ho
    generalize (os.getD i (0, 0)).1 = kd at *
    unfold hpC
    rw [if_neg ho.2.2]
    show 3 ≤ (if kd = 2 then (if ([] : List Int) = [] then (4 : Int) else 2) else 5)
    split <;> simp

end Go.Proofs.Ytmkpmnmllgdppaa
