/-
  At one end alone a deque is a stack, in plain lists; a deque of 0 tells Full, Empty and Bad alone. Conditions: none; no Go function is looked at here.
-/
import Derived.Test.YtafocplahmfghaaApply10
import Derived.Test.YtafocplahmfghaaTurnedWalk10
namespace Go.Proofs.Ytafocplahmfghaa
open Go.RowKit

/-- A stack's kind, at the right end; and at the left one. -/
def rightK (k : Int) : Int := if k = 1 then 2 else if k = 2 then 4 else k
def leftK (k : Int) : Int := turnK (rightK k)
def rightO (o : Int × Int) : Int × Int := (rightK o.1, o.2)
def leftO (o : Int × Int) : Int × Int := (leftK o.1, o.2)
theorem leftO_of (os : List (Int × Int)) : os.map leftO = (os.map rightO).map othO := by
  rw [List.map_map]; rfl
theorem kinds_right (os : List (Int × Int)) (k : Nat) : kindsOf (os.map rightO) k = rightK (kindsOf os k) := by
  unfold kindsOf
  by_cases h : k < os.length
  · simp [List.getD, h, rightO]
  · simp [List.getD, h, rightK]

theorem right_step {most t : Int} {ps : List Int} (h0 : 0 ≤ t) {kd : Int} (hk : kd = 0 ∨ kd = 1 ∨ kd = 2) (k : Nat) :
    dqL most (srow (t, ps)) (rightK kd) k = srow (lineStep most (t, ps) k kd) ∧ dqC most (srow (t, ps)) (rightK kd) = lineC most (t, ps) kd ∧ dqP (srow (t, ps)) (rightK kd) = lineP (t, ps) kd := by
  rcases hk with rfl | rfl | rfl
  · obtain ⟨e1, e2, e3⟩ := srow_bad (most := most) (t := t) (ps := ps) (k := (k : Int)) (kind := 0) (by omega) (by omega)
    rw [e1, e2, e3]
    simp [rightK, dqL, dqC, dqP]
  · by_cases hf : ((srow (t, ps)).length : Int) < most
    · obtain ⟨e1, e2, e3⟩ := srow_push (k := (k : Int)) h0 hf
      rw [e1, e2, e3]
      simp [rightK, dqL, dqC, dqP, hf]
    · obtain ⟨e1, e2, e3⟩ := srow_full (k := (k : Int)) h0 hf
      rw [e1, e2, e3]
      simp [rightK, dqL, dqC, dqP, hf]
  · rcases List.eq_nil_or_concat (srow (t, ps)) with he | ⟨l, z, he⟩
    · obtain ⟨e1, e2, e3⟩ := srow_none (most := most) (k := (k : Int)) h0 he
      rw [e1, e2, e3, he]
      simp [rightK, dqL, dqC, dqP]
    · rw [List.concat_eq_append] at he
      obtain ⟨e1, e2, e3⟩ := srow_pop (most := most) (k := (k : Int)) h0 he
      rw [e1, e2, e3, he]
      simp [rightK, dqL, dqC, dqP]

section
variable {most t : Int} {os : List (Int × Int)}
theorem right_at (h0 : 0 ≤ t) (h1 : t ≤ most) (hk : ∀ k, kindsOf os k = 0 ∨ kindsOf os k = 1 ∨ kindsOf os k = 2) : ∀ k, dqAt most (olds t) (kindsOf (os.map rightO)) k = srow (lineAt most t (kindsOf os) k)
  | 0 => by simp [dqAt, lineAt, srow, olds]
  | k + 1 => by
    rw [dqAt, right_at h0 h1 hk k, kinds_right, lineAt]
    exact (right_step (most := most) (lineAt_ok h0 h1 (kindsOf os) k).low (hk k) k).1
theorem right_pairs (h0 : 0 ≤ t) (h1 : t ≤ most) (hk : ∀ k, kindsOf os k = 0 ∨ kindsOf os k = 1 ∨ kindsOf os k = 2) (n : Nat) : dpL most (olds t) (kindsOf (os.map rightO)) n = pairsL most t (kindsOf os) n := by
  unfold dpL pairsL
  refine List.map_congr_left fun k _ => ?_
  rw [right_at h0 h1 hk, kinds_right]
  exact (right_step (most := most) (lineAt_ok h0 h1 (kindsOf os) k).low (hk k) k).2.2
theorem right_codes (h0 : 0 ≤ t) (h1 : t ≤ most) (hk : ∀ k, kindsOf os k = 0 ∨ kindsOf os k = 1 ∨ kindsOf os k = 2) (n : Nat) : dcL most (olds t) (kindsOf (os.map rightO)) n = codesL most t (kindsOf os) n := by
  unfold dcL codesL
  refine List.map_congr_left fun k _ => ?_
  rw [right_at h0 h1 hk, kinds_right]
  exact (right_step (most := most) (lineAt_ok h0 h1 (kindsOf os) k).low (hk k) k).2.1
theorem left_pairs (h0 : 0 ≤ t) (h1 : t ≤ most) (hk : ∀ k, kindsOf os k = 0 ∨ kindsOf os k = 1 ∨ kindsOf os k = 2) (n : Nat) : dpL most (olds t) (kindsOf (os.map leftO)) n = pairsL most t (kindsOf os) n := by
  rw [leftO_of, turn_pairs, right_pairs h0 h1 hk]
theorem left_codes (h0 : 0 ≤ t) (h1 : t ≤ most) (hk : ∀ k, kindsOf os k = 0 ∨ kindsOf os k = 1 ∨ kindsOf os k = 2) (n : Nat) : dcL most (olds t) (kindsOf (os.map leftO)) n = codesL most t (kindsOf os) n := by
  rw [leftO_of, turn_codes, right_codes h0 h1 hk]
end

theorem opsL_two (xs : List Int) : ∀ o ∈ opsL 2 xs, o.1 = 1 ∨ o.1 = 2 := by
  intro o ho
  simp only [opsL, List.mem_map] at ho
  obtain ⟨x, _, rfl⟩ := ho
  simp only [opOf]
  omega
theorem kinds_two {os : List (Int × Int)} (h : ∀ o ∈ os, o.1 = 1 ∨ o.1 = 2) (k : Nat) : kindsOf os k = 0 ∨ kindsOf os k = 1 ∨ kindsOf os k = 2 := by
  unfold kindsOf
  by_cases hk : k < os.length
  · right; simpa [List.getD, hk] using h _ (List.getElem_mem hk)
  · left; simp [List.getD, hk]

/-- A deque of 0. -/
theorem it_none (os : List (Int × Int)) : ∀ k, itA 0 [] os k = []
  | 0 => rfl
  | k + 1 => by rw [itA, it_none os k]; simp [dqL]
theorem told_none (os : List (Int × Int)) (k : Nat) : 3 ≤ cdA 0 [] os k ∧ vlA 0 [] os k = 0 := by
  unfold cdA vlA
  rw [it_none]
  refine ⟨?_, by simp [dqV]⟩
  unfold dqC
  repeat' split
  all_goals (try omega)
  all_goals simp_all

end Go.Proofs.Ytafocplahmfghaa
