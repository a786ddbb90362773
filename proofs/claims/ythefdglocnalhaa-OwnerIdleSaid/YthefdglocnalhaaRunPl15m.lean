/-
  What a step leaves, in plain numbers: who does not ask does nothing, one step at most, a record's address that may be added to. Conditions: none; no Go function is looked at here.
-/
import Derived.Test.YthefdglocnalhaaOwnG15
namespace Go.Proofs.Ythefdglocnalhaa.M2
open Go.RowKit

theorem stp_idle (size : Int) {t : Th} (zs : List Int) (h : t.pc < 1 ∨ 16 < t.pc) : stp size t zs = ⟨t, zs, 0, 0, 0, false⟩ := by
  unfold stp
  repeat rw [if_neg (by omega)]
theorem stp_c (size : Int) (t : Th) (zs : List Int) : 0 ≤ (stp size t zs).c ∧ (stp size t zs).c ≤ 1 := by
  have a := cn_bd zs
  have b := alC_bd size zs
  unfold stp
  by_cases e1 : t.pc = 1
  · rw [if_pos e1]
    first | exact a _ | exact b | exact ⟨Int.le_refl _, Int.zero_le_ofNat 1⟩
  rw [if_neg e1]
  by_cases e2 : t.pc = 2
  · rw [if_pos e2]
    first | exact a _ | exact b | exact ⟨Int.le_refl _, Int.zero_le_ofNat 1⟩
  rw [if_neg e2]
  by_cases e3 : t.pc = 3
  · rw [if_pos e3]
    first | exact a _ | exact b | exact ⟨Int.le_refl _, Int.zero_le_ofNat 1⟩
  rw [if_neg e3]
  by_cases e4 : t.pc = 4
  · rw [if_pos e4]
    first | exact a _ | exact b | exact ⟨Int.le_refl _, Int.zero_le_ofNat 1⟩
  rw [if_neg e4]
  by_cases e5 : t.pc = 5
  · rw [if_pos e5]
    first | exact a _ | exact b | exact ⟨Int.le_refl _, Int.zero_le_ofNat 1⟩
  rw [if_neg e5]
  by_cases e6 : t.pc = 6
  · rw [if_pos e6]
    first | exact a _ | exact b | exact ⟨Int.le_refl _, Int.zero_le_ofNat 1⟩
  rw [if_neg e6]
  by_cases e7 : t.pc = 7
  · rw [if_pos e7]
    first | exact a _ | exact b | exact ⟨Int.le_refl _, Int.zero_le_ofNat 1⟩
  rw [if_neg e7]
  by_cases e8 : t.pc = 8
  · rw [if_pos e8]
    first | exact a _ | exact b | exact ⟨Int.le_refl _, Int.zero_le_ofNat 1⟩
  rw [if_neg e8]
  by_cases e9 : t.pc = 9
  · rw [if_pos e9]
    first | exact a _ | exact b | exact ⟨Int.le_refl _, Int.zero_le_ofNat 1⟩
  rw [if_neg e9]
  by_cases e10 : t.pc = 10
  · rw [if_pos e10]
    first | exact a _ | exact b | exact ⟨Int.le_refl _, Int.zero_le_ofNat 1⟩
  rw [if_neg e10]
  by_cases e11 : t.pc = 11
  · rw [if_pos e11]
    first | exact a _ | exact b | exact ⟨Int.le_refl _, Int.zero_le_ofNat 1⟩
  rw [if_neg e11]
  by_cases e12 : t.pc = 12
  · rw [if_pos e12]
    first | exact a _ | exact b | exact ⟨Int.le_refl _, Int.zero_le_ofNat 1⟩
  rw [if_neg e12]
  by_cases e13 : t.pc = 13
  · rw [if_pos e13]
    first | exact a _ | exact b | exact ⟨Int.le_refl _, Int.zero_le_ofNat 1⟩
  rw [if_neg e13]
  by_cases e14 : t.pc = 14
  · rw [if_pos e14]
    first | exact a _ | exact b | exact ⟨Int.le_refl _, Int.zero_le_ofNat 1⟩
  rw [if_neg e14]
  by_cases e15 : t.pc = 15
  · rw [if_pos e15]
    first | exact a _ | exact b | exact ⟨Int.le_refl _, Int.zero_le_ofNat 1⟩
  rw [if_neg e15]
  by_cases e16 : t.pc = 16
  · rw [if_pos e16]
    first | exact a _ | exact b | exact ⟨Int.le_refl _, Int.zero_le_ofNat 1⟩
  rw [if_neg e16]
  first | exact a _ | exact b | exact ⟨Int.le_refl _, Int.zero_le_ofNat 1⟩
theorem stp_rc (size : Int) {t : Th} {zs : List Int} (h : 0 ≤ t.rc ∧ t.rc ≤ 1000) (hl : zs.length ≤ 1000) : 0 ≤ (stp size t zs).t.rc ∧ (stp size t zs).t.rc ≤ 1000 := by
  have b : 0 ≤ fk (rm size zs) (alA size zs) t.rc ∧ fk (rm size zs) (alA size zs) t.rc ≤ 1000 := by
    unfold fk alA
    cases rm size zs
    · exact h
    · simp
      omega
  unfold stp
  by_cases e1 : t.pc = 1
  · rw [if_pos e1]
    first | exact b | exact h
  rw [if_neg e1]
  by_cases e2 : t.pc = 2
  · rw [if_pos e2]
    first | exact b | exact h
  rw [if_neg e2]
  by_cases e3 : t.pc = 3
  · rw [if_pos e3]
    first | exact b | exact h
  rw [if_neg e3]
  by_cases e4 : t.pc = 4
  · rw [if_pos e4]
    first | exact b | exact h
  rw [if_neg e4]
  by_cases e5 : t.pc = 5
  · rw [if_pos e5]
    first | exact b | exact h
  rw [if_neg e5]
  by_cases e6 : t.pc = 6
  · rw [if_pos e6]
    first | exact b | exact h
  rw [if_neg e6]
  by_cases e7 : t.pc = 7
  · rw [if_pos e7]
    first | exact b | exact h
  rw [if_neg e7]
  by_cases e8 : t.pc = 8
  · rw [if_pos e8]
    first | exact b | exact h
  rw [if_neg e8]
  by_cases e9 : t.pc = 9
  · rw [if_pos e9]
    first | exact b | exact h
  rw [if_neg e9]
  by_cases e10 : t.pc = 10
  · rw [if_pos e10]
    first | exact b | exact h
  rw [if_neg e10]
  by_cases e11 : t.pc = 11
  · rw [if_pos e11]
    first | exact b | exact h
  rw [if_neg e11]
  by_cases e12 : t.pc = 12
  · rw [if_pos e12]
    first | exact b | exact h
  rw [if_neg e12]
  by_cases e13 : t.pc = 13
  · rw [if_pos e13]
    first | exact b | exact h
  rw [if_neg e13]
  by_cases e14 : t.pc = 14
  · rw [if_pos e14]
    first | exact b | exact h
  rw [if_neg e14]
  by_cases e15 : t.pc = 15
  · rw [if_pos e15]
    first | exact b | exact h
  rw [if_neg e15]
  by_cases e16 : t.pc = 16
  · rw [if_pos e16]
    first | exact b | exact h
  rw [if_neg e16]
  first | exact b | exact h
theorem ad_rc {x : Int} (h : 0 ≤ x ∧ x ≤ 1000) : ad x 0 = x := by
  unfold ad wrap64
  omega

end Go.Proofs.Ythefdglocnalhaa.M2
