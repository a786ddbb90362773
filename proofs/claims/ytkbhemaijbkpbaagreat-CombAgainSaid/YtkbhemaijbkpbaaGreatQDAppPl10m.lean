/-
  A batch at a deque, in plain lists: what one by one makes of the items, and what each is told; and that a deque to which only those come that meet nobody says the same. Conditions: none; no Go function is looked at here.
-/
import Derived.Test.YtkbhemaijbkpbaaGreatG1216
namespace Go.Proofs.YtkbhemaijbkpbaaGreat.D10

/-- An operation's value. -/
def valOf (os : List (Int × Int)) (j : Int) : Int := (os.getD j.toNat (0, 0)).2
/-- The items behind the first k operations. -/
def itA (most : Int) (zs : List Int) (os : List (Int × Int)) : Nat → List Int
  | 0 => zs
  | k + 1 => dqL most (itA most zs os k) (kindsOf os k) (valOf os k)
/-- The code, and the value, that operation k is told. -/
def cdA (most : Int) (zs : List Int) (os : List (Int × Int)) (k : Nat) : Int := dqC most (itA most zs os k) (kindsOf os k)
def vlA (most : Int) (zs : List Int) (os : List (Int × Int)) (k : Nat) : Int := dqV (itA most zs os k) (kindsOf os k)
/-- What the first k are told. -/
def resL (most : Int) (zs : List Int) (os : List (Int × Int)) (k : Nat) : List (Int × Int) := (List.range k).map fun i => (cdA most zs os i, vlA most zs os i)
def resK (most : Int) (zs : List Int) (os : List (Int × Int)) (n k : Nat) : List (Int × Int) := resL most zs os k ++ List.replicate (n - k) (0, 0)

section
variable {most : Int} {zs : List Int} {os : List (Int × Int)} {n k : Nat}
theorem resL_length : (resL most zs os k).length = k := by simp [resL]
theorem resK_length (h : k ≤ n) : (resK most zs os n k).length = n := by simp [resK, resL_length]; omega
theorem resL_snoc : resL most zs os (k + 1) = resL most zs os k ++ [(cdA most zs os k, vlA most zs os k)] := by simp [resL, List.range_succ]
theorem resK_all : resK most zs os n n = resL most zs os n := by simp [resK]
theorem resK_none : resK most zs os n 0 = List.replicate n (0, 0) := by simp [resK, resL]
theorem resK_at (h : k < n) : (resK most zs os n k).getD k (0, 0) = (0, 0) := by
  unfold resK
  obtain ⟨d, hd⟩ : ∃ d, n - k = d + 1 := ⟨n - k - 1, by omega⟩
  simp [List.getD, resL_length, hd]
theorem resK_put (h : k < n) : (resK most zs os n k).set k (cdA most zs os k, vlA most zs os k) = resK most zs os n (k + 1) := by
  unfold resK
  rw [List.set_append_right _ _ (by rw [resL_length]; omega), resL_length, Nat.sub_self, show n - k = (n - (k + 1)) + 1 by omega, List.replicate_succ, List.set_cons_zero, resL_snoc]
  simp
/-- A code is written ahead of the rest. -/
def resC (most : Int) (zs : List Int) (os : List (Int × Int)) (n k : Nat) : List (Int × Int) := (resK most zs os n k).set k (cdA most zs os k, 0)
theorem resC_length (h : k ≤ n) : (resC most zs os n k).length = n := by simp [resC, resK_length h]
theorem resC_at (h : k < n) : (resC most zs os n k).getD k (0, 0) = (cdA most zs os k, 0) := by
  unfold resC
  simp [List.getD, resK_length (Nat.le_of_lt h), h]
theorem resC_set (h : k < n) : (resK most zs os n k).set k (cdA most zs os k, ((resK most zs os n k).getD k (0, 0)).2) = resC most zs os n k := by
  rw [resK_at h]; rfl
theorem resC_put (h : k < n) (x y : Int) (hx : x = cdA most zs os k) (hy : y = vlA most zs os k) : (resC most zs os n k).set k (x, y) = resK most zs os n (k + 1) := by
  unfold resC
  rw [List.set_set, hx, hy, resK_put h]
theorem resC_idle (h : k < n) (e : vlA most zs os k = 0) : resC most zs os n k = resK most zs os n (k + 1) := by
  rw [← resK_put h, e]; rfl

/-- What an operation makes of a deque of whatever. -/
def dqG {α : Type} (most : Int) (s : List α) (kind : Int) (x : α) : List α :=
  if kind = 1 then (if (s.length : Int) < most then x :: s else s) else if kind = 2 then (if (s.length : Int) < most then s ++ [x] else s) else if kind = 3 then s.tail else if kind = 4 then s.dropLast else s
theorem dqG_map {α : Type} (f : α → Int) (s : List α) (kind : Int) (x : α) : (dqG most s kind x).map f = dqL most (s.map f) kind (f x) := by
  unfold dqG dqL
  rw [List.length_map]
  repeat' split
  all_goals simp [List.map_tail, List.map_dropLast]

/-- Places, with the values of the items. -/
def pzAt (most : Int) (zs : List Int) (os : List (Int × Int)) : Nat → List (Int × Int)
  | 0 => zs.map fun z => (-1, z)
  | k + 1 => dqG most (pzAt most zs os k) (kindsOf os k) ((k : Int), valOf os k)
theorem pz_fst : ∀ k, (pzAt most zs os k).map Prod.fst = dqAt most (olds zs.length) (kindsOf os) k
  | 0 => by simp [pzAt, dqAt, olds, Function.comp_def, List.map_const']
  | k + 1 => by rw [pzAt, dqG_map, pz_fst k, dqAt]
theorem pz_snd : ∀ k, (pzAt most zs os k).map Prod.snd = itA most zs os k
  | 0 => by simp [pzAt, itA, Function.comp_def]
  | k + 1 => by rw [pzAt, dqG_map, pz_snd k, itA]
theorem pz_val : ∀ k, ∀ e ∈ pzAt most zs os k, e.1 ≠ -1 → e.2 = valOf os e.1
  | 0 => fun e he hn => by
    simp only [pzAt, List.mem_map] at he
    obtain ⟨z, _, rfl⟩ := he
    exact absurd rfl hn
  | k + 1 => fun e he hn => by
    have ih := pz_val k
    simp only [pzAt, dqG] at he
    split at he
    · split at he
      · simp only [List.mem_cons] at he
        rcases he with rfl | he
        · rfl
        · exact ih e he hn
      · exact ih e he hn
    · split at he
      · split at he
        · simp only [List.mem_append, List.mem_singleton] at he
          rcases he with he | rfl
          · exact ih e he hn
          · rfl
        · exact ih e he hn
      · split at he
        · exact ih e (List.mem_of_mem_tail he) hn
        · split at he
          · exact ih e (List.dropLast_subset _ he) hn
          · exact ih e he hn
theorem it_length (k : Nat) : (itA most zs os k).length = (dqAt most (olds zs.length) (kindsOf os) k).length := by
  rw [← pz_snd, ← pz_fst, List.length_map, List.length_map]
theorem code_same (k : Nat) : dqC most (dqAt most (olds zs.length) (kindsOf os) k) (kindsOf os k) = cdA most zs os k := by
  have hl := it_length (most := most) (zs := zs) (os := os) k
  have he : dqAt most (olds zs.length) (kindsOf os) k = [] ↔ itA most zs os k = [] := by
    rw [← List.length_eq_zero_iff, ← List.length_eq_zero_iff, hl]
  unfold cdA dqC
  rw [hl]
  by_cases h : itA most zs os k = []
  · rw [if_pos h, if_pos (he.2 h)]
  · rw [if_neg h, if_neg (fun x => h (he.1 x))]
theorem olds_neg (t : Int) : ∀ j ∈ olds t, j < 0 := fun j hj => by
  have := List.eq_of_mem_replicate hj
  omega

/-- Which push is met. -/
def metB (ps : List Int) (j : Int) : Bool := decide (0 ≤ j ∧ j ∈ ps)
theorem metB_old (ps : List Int) : metB ps (-1) = false := by simp [metB]

/-- Who meets whom, all n. -/
def psA (most : Int) (zs : List Int) (os : List (Int × Int)) (n : Nat) : List Int := dpL most (olds zs.length) (kindsOf os) n
/-- Whom k meets. -/
def ptA (most : Int) (zs : List Int) (os : List (Int × Int)) (k : Nat) : Int := dqP (dqAt most (olds zs.length) (kindsOf os) k) (kindsOf os k)
theorem ptA_in (hz : (zs.length : Int) ≤ most) (k : Nat) : -1 ≤ ptA most zs os k ∧ ptA most zs os k < k :=
  dqP_in (dqAt_ok (olds_ok (by omega) hz) (kindsOf os) k) _
theorem psA_getD (h : k < n) : (psA most zs os n).getD k 0 = ptA most zs os k := dpL_getD h
theorem psA_length : (psA most zs os n).length = n := dpL_length
theorem psA_mem {j : Int} : j ∈ psA most zs os n ↔ ∃ i, i < n ∧ ptA most zs os i = j := by
  simp [psA, dpL, ptA]
theorem metB_of (h : k < n) (hz : (zs.length : Int) ≤ most) (hp : ptA most zs os k ≠ -1) : metB (psA most zs os n) (ptA most zs os k) = true := by
  have := ptA_in (os := os) hz k
  simp only [metB, decide_eq_true_eq]
  exact ⟨by omega, psA_mem.2 ⟨k, h, rfl⟩⟩

/-- The items of a deque to which only those came that meet nobody. -/
def dkA (most : Int) (zs : List Int) (os : List (Int × Int)) (n k : Nat) : List Int := ((pzAt most zs os k).filter fun e => !metB (psA most zs os n) e.1).map Prod.snd
theorem dkA_le (k : Nat) : (dkA most zs os n k).length ≤ (pzAt most zs os k).length := by
  unfold dkA
  rw [List.length_map]
  exact List.length_filter_le _ _
theorem dkA_zero : dkA most zs os n 0 = zs := by
  unfold dkA pzAt
  rw [List.filter_eq_self.2]
  · simp [Function.comp_def]
  · intro e he
    simp only [List.mem_map] at he
    obtain ⟨z, _, rfl⟩ := he
    simp [metB_old]
theorem dkA_all : dkA most zs os n n = itA most zs os n := by
  unfold dkA
  rw [List.filter_eq_self.2, pz_snd]
  intro e he
  simp only [Bool.not_eq_true', metB, decide_eq_false_iff_not, not_and]
  intro h0 hm
  obtain ⟨i, hi, hp⟩ := psA_mem.1 hm
  have hl := met_later (most := most) (ks := kindsOf os) (once_olds zs.length) hi (by show 0 ≤ ptA most zs os i; omega)
  refine hl ?_
  show ptA most zs os i ∈ _
  rw [hp, ← pz_fst]
  exact List.mem_map_of_mem he

theorem stepMeet (hz : (zs.length : Int) ≤ most) (h : k < n) (hp : ptA most zs os k ≠ -1) : dkA most zs os n (k + 1) = dkA most zs os n k ∧ vlA most zs os k = valOf os (ptA most zs os k) := by
  have hm := metB_of h hz hp
  have hv := pz_val (most := most) (zs := zs) (os := os) k
  unfold vlA dkA
  rw [pzAt, ← pz_snd]
  unfold ptA at hp hm ⊢
  rw [← pz_fst] at hp hm ⊢
  generalize pzAt most zs os k = s at *
  generalize psA most zs os n = ps at *
  generalize kindsOf os k = kd at *
  unfold dqP at hp hm ⊢
  unfold dqG dqV
  by_cases h3 : kd = 3
  · subst h3
    simp only [if_true, if_neg (show ¬ (3 : Int) = 1 by omega), if_neg (show ¬ (3 : Int) = 2 by omega)] at *
    cases s with
    | nil => simp at hp
    | cons e l =>
      simp only [List.map_cons, List.headD_cons, List.tail_cons] at *
      exact ⟨by rw [List.filter_cons, hm]; simp, hv e (by simp) hp⟩
  · by_cases h4 : kd = 4
    · subst h4
      simp only [if_true, if_neg (show ¬ (4 : Int) = 1 by omega), if_neg (show ¬ (4 : Int) = 2 by omega), if_neg (show ¬ (4 : Int) = 3 by omega)] at *
      rcases List.eq_nil_or_concat s with x | ⟨l, e, x⟩
      · rw [x] at hp; simp at hp
      · rw [List.concat_eq_append] at x
        subst x
        simp only [List.map_append, List.map_cons, List.map_nil, List.getLastD_concat, List.dropLast_concat] at *
        exact ⟨by rw [List.filter_append, List.filter_cons, hm]; simp, hv e (by simp) hp⟩
    · simp only [if_neg h3, if_neg h4] at hp
      exact absurd rfl hp
theorem stepFull (hc : cdA most zs os k = 3) : dkA most zs os n (k + 1) = dkA most zs os n k ∧ vlA most zs os k = 0 := by
  unfold cdA at hc
  unfold vlA dkA
  rw [pzAt]
  have hl : (itA most zs os k).length = (pzAt most zs os k).length := by rw [← pz_snd, List.length_map]
  unfold dqC at hc
  unfold dqG dqV
  rw [← hl]
  split at hc
  · rename_i hk
    split at hc
    · omega
    · rename_i hf
      rcases hk with hk | hk
      · simp only [hk, if_true, if_neg hf, if_neg (show ¬ (1 : Int) = 3 by omega), if_neg (show ¬ (1 : Int) = 4 by omega), and_self]
      · simp only [hk, if_true, if_neg hf, if_neg (show ¬ (2 : Int) = 1 by omega), if_neg (show ¬ (2 : Int) = 3 by omega), if_neg (show ¬ (2 : Int) = 4 by omega), and_self]
  · split at hc
    · split at hc <;> omega
    · omega
theorem stepMet (hm : metB (psA most zs os n) k = true) : dkA most zs os n (k + 1) = dkA most zs os n k ∧ vlA most zs os k = 0 := by
  have hm' := hm
  simp only [metB, decide_eq_true_eq] at hm'
  obtain ⟨i, hi, hp⟩ := psA_mem.1 hm'.2
  have hin : (k : Int) ∈ dqAt most (olds zs.length) (kindsOf os) i := by
    rw [← hp]
    exact met_in (by show 0 ≤ ptA most zs os i; omega)
  obtain ⟨_, hk, hc⟩ := stood (olds_neg _) (by omega) i hin
  rw [Int.toNat_natCast] at hk hc
  rw [code_same] at hc
  unfold cdA at hc
  unfold vlA dkA
  rw [pzAt]
  have hl : (itA most zs os k).length = (pzAt most zs os k).length := by rw [← pz_snd, List.length_map]
  unfold dqC at hc
  rw [if_pos hk] at hc
  split at hc
  · rename_i hf
    rw [hl] at hf
    unfold dqG dqV
    rcases hk with hk | hk
    · simp only [hk, if_true, if_pos hf, if_neg (show ¬ (1 : Int) = 3 by omega), if_neg (show ¬ (1 : Int) = 4 by omega)]
      rw [List.filter_cons]
      simp [hm]
    · simp only [hk, if_true, if_pos hf, if_neg (show ¬ (2 : Int) = 1 by omega), if_neg (show ¬ (2 : Int) = 3 by omega), if_neg (show ¬ (2 : Int) = 4 by omega)]
      rw [List.filter_append, List.filter_cons]
      simp [hm]
  · omega
theorem stepDo (hp : ptA most zs os k = -1) (hc : cdA most zs os k ≠ 3) (hm : metB (psA most zs os n) k = false) :
    dqL most (dkA most zs os n k) (kindsOf os k) (valOf os k) = dkA most zs os n (k + 1) ∧ dqC most (dkA most zs os n k) (kindsOf os k) = cdA most zs os k ∧ dqV (dkA most zs os n k) (kindsOf os k) = vlA most zs os k := by
  have hle := dkA_le (most := most) (zs := zs) (os := os) (n := n) k
  unfold cdA at hc ⊢
  unfold vlA
  unfold dkA at hle ⊢
  rw [pzAt, ← pz_snd] at *
  unfold ptA at hp
  rw [← pz_fst] at hp
  generalize pzAt most zs os k = s at *
  generalize psA most zs os n = ps at *
  generalize kindsOf os k = kd at *
  generalize valOf os k = v at *
  have ho := metB_old ps
  unfold dqP at hp
  unfold dqC at hc ⊢
  unfold dqG dqV dqL
  by_cases h1 : kd = 1
  · subst h1
    simp only [if_true, true_or, if_neg (show ¬ (1 : Int) = 3 by omega), if_neg (show ¬ (1 : Int) = 4 by omega)] at *
    rw [List.length_map] at hc hle
    have hf : (s.length : Int) < most := by
      refine Classical.byContradiction fun hf => ?_
      rw [if_neg hf] at hc
      exact hc rfl
    have hg : (((s.filter fun e => !metB ps e.1).length : Nat) : Int) < most := by omega
    simp only [List.length_map]
    rw [if_pos hg, if_pos hf, List.filter_cons]
    simp [hm, hf, hg]
  by_cases h2 : kd = 2
  · subst h2
    simp only [if_true, or_true, if_neg (show ¬ (2 : Int) = 1 by omega), if_neg (show ¬ (2 : Int) = 3 by omega), if_neg (show ¬ (2 : Int) = 4 by omega)] at *
    rw [List.length_map] at hc hle
    have hf : (s.length : Int) < most := by
      refine Classical.byContradiction fun hf => ?_
      rw [if_neg hf] at hc
      exact hc rfl
    have hg : (((s.filter fun e => !metB ps e.1).length : Nat) : Int) < most := by omega
    simp only [List.length_map]
    rw [if_pos hg, if_pos hf, List.filter_append, List.filter_cons]
    simp [hm, hf, hg]
  by_cases h3 : kd = 3
  · subst h3
    simp only [if_true, true_or, if_neg (show ¬ (3 : Int) = 1 by omega), if_neg (show ¬ (3 : Int) = 2 by omega), show ¬ ((3 : Int) = 1 ∨ (3 : Int) = 2) by omega, if_false] at *
    cases s with
    | nil => simp
    | cons e l =>
      simp only [List.map_cons, List.headD_cons, List.tail_cons] at *
      rw [List.filter_cons, hp, ho]
      simp
  by_cases h4 : kd = 4
  · subst h4
    simp only [if_true, or_true, if_neg (show ¬ (4 : Int) = 1 by omega), if_neg (show ¬ (4 : Int) = 2 by omega), if_neg (show ¬ (4 : Int) = 3 by omega), show ¬ ((4 : Int) = 1 ∨ (4 : Int) = 2) by omega, if_false] at *
    rcases List.eq_nil_or_concat s with x | ⟨l, e, x⟩
    · rw [x]; simp
    · rw [List.concat_eq_append] at x
      subst x
      simp only [List.map_append, List.map_cons, List.map_nil, List.getLastD_concat, List.dropLast_concat] at *
      rw [List.filter_append, List.filter_cons, hp, ho]
      simp
  · simp only [if_neg h1, if_neg h2, if_neg h3, if_neg h4, show ¬ (kd = 1 ∨ kd = 2) by omega, show ¬ (kd = 3 ∨ kd = 4) by omega, if_false, and_self]
end

end Go.Proofs.YtkbhemaijbkpbaaGreat.D10
