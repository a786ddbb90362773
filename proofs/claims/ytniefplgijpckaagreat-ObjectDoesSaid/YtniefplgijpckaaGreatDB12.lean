/-
  A deque of places, in plain lists: what becomes of it by each operation, which push a pop meets, and codes; whom is met, the other way round, and as many as were there. Conditions: none; no Go function is looked at here. How wide an int is, and its zero. Conditions: none. A line of pushes that wait, in plain lists: what becomes of it by each operation, which push a pop meets, and codes. Conditions: none; no Go function is looked at here. Rows of numbers and of what is told, in blocks of one's own, and boxes that hold them; whom the first operations meet, and codes, in rows. Conditions: none; no Go function is looked at here. A row of what is told, in a block of one's own: codes and values. Conditions: none; no Go function is looked at here. What Spared of package match answers; equality of numbers and of codes; the chapter's example holds. Conditions: operations that lie in memory, at most a million; lists of at most a thousand. What Pairs of package match answers. Conditions: operations that lie in memory, at most a million. MatchFront: the walk. Conditions: arguments as they came in. The document's stack of places, in plain lists: those that were there are -1; three rows of one's own side by side. Conditions: none; no Go function is looked at here. What reaperref09.Pairs and reaperref09.Spared answer. Conditions: operations that lie in memory, at most a thousand. MatchPairs: the walk. Conditions: arguments as they came in. Who was met, how many meet at most, and which item a pop takes that meets nobody, in plain lists; a row of bools in a block of one's own. Conditions: none; no Go function is looked at here. A batch at a deque, in plain lists: what one by one makes of the items, and what each is told; and that a deque to which only those come that meet nobody says the same. Conditions: none; no Go function is looked at here.
-/
import Derived.Test.YtniefplgijpckaaGreatDA12
import Derived.Deep.CutRange
import Derived.Deep.CutBlock
namespace Go.Proofs.YtniefplgijpckaaGreat.D10

/-- The places of those that wait, from left to right, behind the first ones of many, of these kinds; -1: an item that was there. -/
def dqAt (most : Int) (s0 : List Int) (ks : Nat → Int) : Nat → List Int
  | 0 => s0
  | k + 1 => dqL most (dqAt most s0 ks k) (ks k) k
/-- The push that one meets. -/
def dqP (s : List Int) (kind : Int) : Int := if kind = 3 then s.headD (-1) else if kind = 4 then s.getLastD (-1) else -1
/-- The codes of the first n, and whom these meet. -/
def dcL (most : Int) (s0 : List Int) (ks : Nat → Int) (n : Nat) : List Int := (List.range n).map fun k => dqC most (dqAt most s0 ks k) (ks k)
def dpL (most : Int) (s0 : List Int) (ks : Nat → Int) (n : Nat) : List Int := (List.range n).map fun k => dqP (dqAt most s0 ks k) (ks k)
/-- The items that were there. -/
def olds (t : Int) : List Int := List.replicate t.toNat (-1)

section
variable {most : Int} {s0 : List Int} {ks : Nat → Int} {n k : Nat}
theorem dcL_length : (dcL most s0 ks n).length = n := by simp [dcL]
theorem dpL_length : (dpL most s0 ks n).length = n := by simp [dpL]
theorem dcL_snoc : dcL most s0 ks (n + 1) = dcL most s0 ks n ++ [dqC most (dqAt most s0 ks n) (ks n)] := by simp [dcL, List.range_succ]
theorem dpL_snoc : dpL most s0 ks (n + 1) = dpL most s0 ks n ++ [dqP (dqAt most s0 ks n) (ks n)] := by simp [dpL, List.range_succ]
theorem dcL_getD (h : k < n) : (dcL most s0 ks n).getD k 0 = dqC most (dqAt most s0 ks k) (ks k) := by simp [dcL, List.getD, h]
theorem dpL_getD (h : k < n) : (dpL most s0 ks n).getD k 0 = dqP (dqAt most s0 ks k) (ks k) := by simp [dpL, List.getD, h]

/-- What is told, after k of n. -/
def dcK (most : Int) (s0 : List Int) (ks : Nat → Int) (n k : Nat) : List Int := dcL most s0 ks k ++ List.replicate (n - k) 0
def dpK (most : Int) (s0 : List Int) (ks : Nat → Int) (n k : Nat) : List Int := dpL most s0 ks k ++ List.replicate (n - k) (-1)
theorem dcK_length (h : k ≤ n) : (dcK most s0 ks n k).length = n := by simp [dcK, dcL_length]; omega
theorem dpK_length (h : k ≤ n) : (dpK most s0 ks n k).length = n := by simp [dpK, dpL_length]; omega
theorem dcK_all : dcK most s0 ks n n = dcL most s0 ks n := by simp [dcK]
theorem dpK_all : dpK most s0 ks n n = dpL most s0 ks n := by simp [dpK]
theorem dcK_none : dcK most s0 ks n 0 = List.replicate n 0 := by simp [dcK, dcL]
theorem dpK_none : dpK most s0 ks n 0 = List.replicate n (-1) := by simp [dpK, dpL]
theorem dcK_put (h : k < n) : (dcK most s0 ks n k).set k (dqC most (dqAt most s0 ks k) (ks k)) = dcK most s0 ks n (k + 1) := by
  unfold dcK
  rw [List.set_append_right _ _ (by rw [dcL_length]; omega), dcL_length, Nat.sub_self, show n - k = (n - (k + 1)) + 1 by omega, List.replicate_succ, List.set_cons_zero, dcL_snoc]
  simp
theorem dpK_put (h : k < n) : (dpK most s0 ks n k).set k (dqP (dqAt most s0 ks k) (ks k)) = dpK most s0 ks n (k + 1) := by
  unfold dpK
  rw [List.set_append_right _ _ (by rw [dpL_length]; omega), dpL_length, Nat.sub_self, show n - k = (n - (k + 1)) + 1 by omega, List.replicate_succ, List.set_cons_zero, dpL_snoc]
  simp
theorem dpK_same (h : k < n) (e : dqP (dqAt most s0 ks k) (ks k) = -1) : dpK most s0 ks n k = dpK most s0 ks n (k + 1) := by
  unfold dpK
  rw [dpL_snoc, e, show n - k = (n - (k + 1)) + 1 by omega, List.replicate_succ]
  simp

/-- What holds of a deque of places behind k operations: no more than may be; each place is that of an item that was there, or of one of the k. -/
structure DqOk (most : Int) (k : Nat) (s : List Int) : Prop where
  room : (s.length : Int) ≤ most
  places : ∀ j ∈ s, -1 ≤ j ∧ j < k

theorem dqL_ok {s : List Int} (h : DqOk most k s) (kind : Int) : DqOk most (k + 1) (dqL most s kind k) := by
  obtain ⟨h3, h4⟩ := h
  have up : ∀ j ∈ s, -1 ≤ j ∧ j < ((k + 1 : Nat) : Int) := fun j hj => by have := h4 j hj; omega
  unfold dqL
  split
  · split
    · refine ⟨by simp; omega, fun j hj => ?_⟩
      simp only [List.mem_cons] at hj
      rcases hj with rfl | hj
      · omega
      · exact up j hj
    · exact ⟨h3, up⟩
  · split
    · split
      · refine ⟨by simp; omega, fun j hj => ?_⟩
        simp only [List.mem_append, List.mem_singleton] at hj
        rcases hj with hj | rfl
        · exact up j hj
        · omega
      · exact ⟨h3, up⟩
    · split
      · exact ⟨by simp only [List.length_tail]; omega, fun j hj => up j (List.mem_of_mem_tail hj)⟩
      · split
        · exact ⟨by simp only [List.length_dropLast]; omega, fun j hj => up j (List.dropLast_subset _ hj)⟩
        · exact ⟨h3, up⟩
theorem dqAt_ok (h0 : DqOk most 0 s0) (ks : Nat → Int) : ∀ k, DqOk most k (dqAt most s0 ks k)
  | 0 => h0
  | k + 1 => by simpa [dqAt] using dqL_ok (dqAt_ok h0 ks k) (ks k)
theorem olds_ok {t : Int} (h0 : 0 ≤ t) (h1 : t ≤ most) : DqOk most 0 (olds t) := by
  refine ⟨by simp [olds]; omega, fun j hj => ?_⟩
  have := List.eq_of_mem_replicate hj
  omega
theorem olds_length {t : Int} (h0 : 0 ≤ t) : ((olds t).length : Int) = t := by simp [olds]; omega

theorem headD_in {s : List Int} {P : Int → Prop} (h : ∀ j ∈ s, P j) (d : Int) (hd : P d) : P (s.headD d) := by
  cases s with
  | nil => exact hd
  | cons x l => exact h x (by simp)
theorem getLastD_in {s : List Int} {P : Int → Prop} (h : ∀ j ∈ s, P j) (d : Int) (hd : P d) : P (s.getLastD d) := by
  rcases List.eq_nil_or_concat s with e | ⟨l, x, e⟩
  · rw [e]; exact hd
  · rw [List.concat_eq_append] at e
    rw [e, List.getLastD_concat]
    exact h x (by rw [e]; simp)
theorem dqP_in {s : List Int} (h : DqOk most k s) (kind : Int) : -1 ≤ dqP s kind ∧ dqP s kind < k := by
  unfold dqP
  split
  · exact headD_in h.places _ (by omega)
  · split
    · exact getLastD_in h.places _ (by omega)
    · omega
theorem dqC_in (most : Int) (s : List Int) (kind : Int) : 1 ≤ dqC most s kind ∧ dqC most s kind ≤ 5 := by
  unfold dqC
  repeat' split
  all_goals omega

theorem dqAt_congr {ks' : Nat → Int} {k : Nat} (h : ∀ i, i < k → ks i = ks' i) : dqAt most s0 ks k = dqAt most s0 ks' k := by
  induction k with
  | zero => rfl
  | succ k ih => simp only [dqAt]; rw [ih (fun i hi => h i (by omega)), h k (by omega)]
theorem dpL_congr {ks' : Nat → Int} {n : Nat} (h : ∀ i, i < n → ks i = ks' i) : dpL most s0 ks n = dpL most s0 ks' n := by
  unfold dpL
  refine List.map_congr_left fun k hk => ?_
  have hk : k < n := by simpa using hk
  rw [dqAt_congr (fun i hi => h i (by omega)), h k hk]
theorem dcL_congr {ks' : Nat → Int} {n : Nat} (h : ∀ i, i < n → ks i = ks' i) : dcL most s0 ks n = dcL most s0 ks' n := by
  unfold dcL
  refine List.map_congr_left fun k hk => ?_
  have hk : k < n := by simpa using hk
  rw [dqAt_congr (fun i hi => h i (by omega)), h k hk]
theorem dpL_take (h : k ≤ n) : (dpL most s0 ks n).take k = dpL most s0 ks k := by
  unfold dpL
  rw [← List.map_take, List.take_range, Nat.min_eq_left h]

/-- Each push at most once: a place that is met is not there any more, and no later one is the same. -/
structure Once (s : List Int) (k : Nat) : Prop where
  low : ∀ j ∈ s, j < k
  one : ∀ j, 0 ≤ j → s.count j ≤ 1
theorem Once.put {s : List Int} (h : Once s k) (left : Bool) : Once (if left then (k : Int) :: s else s ++ [(k : Int)]) (k + 1) := by
  have hk : s.count (k : Int) = 0 := List.count_eq_zero.2 fun hm => by have := h.low _ hm; omega
  refine ⟨fun j hj => ?_, fun j hj => ?_⟩
  · have : j = k ∨ j ∈ s := by
      cases left
      · simp only [Bool.false_eq_true, if_false, List.mem_append, List.mem_singleton] at hj
        exact hj.symm
      · simp only [if_true, List.mem_cons] at hj
        exact hj
    rcases this with rfl | hm
    · omega
    · have := h.low j hm; omega
  · by_cases e : j = k
    · subst e
      cases left <;> simp [List.count_append, hk]
    · have e' : ¬ (k : Int) = j := fun x => e x.symm
      have := h.one j hj
      cases left <;> simp [List.count_append, List.count_cons, e'] <;> omega
theorem Once.sub {s l : List Int} (h : Once s k) (hs : List.Sublist l s) : Once l (k + 1) :=
  ⟨fun j hj => by have := h.low j (hs.subset hj); omega, fun j hj => Nat.le_trans (hs.count_le j) (h.one j hj)⟩
theorem once_olds (t : Int) : Once (olds t) 0 := by
  refine ⟨fun j hj => ?_, fun j hj => ?_⟩
  · have := List.eq_of_mem_replicate hj; omega
  · rw [olds, List.count_replicate]
    have : ¬ (-1 : Int) = j := by omega
    simp [this]
theorem once_step {s : List Int} (h : Once s k) (kind : Int) : Once (dqL most s kind k) (k + 1) := by
  unfold dqL
  split
  · split
    · exact h.put true
    · exact h.sub (List.Sublist.refl _)
  · split
    · split
      · exact h.put false
      · exact h.sub (List.Sublist.refl _)
    · split
      · exact h.sub (List.tail_sublist _)
      · split
        · exact h.sub (List.dropLast_sublist _)
        · exact h.sub (List.Sublist.refl _)
theorem once_at (h0 : Once s0 0) (ks : Nat → Int) : ∀ k, Once (dqAt most s0 ks k) k
  | 0 => h0
  | k + 1 => once_step (once_at h0 ks k) (ks k)

/-- Who is met is not there behind. -/
theorem met_gone {s : List Int} (h : Once s k) (kind : Int) (hp : 0 ≤ dqP s kind) : dqP s kind ∉ dqL most s kind k := by
  unfold dqP dqL at *
  by_cases h3 : kind = 3
  · subst h3
    simp only [if_true, if_neg (show ¬ (3 : Int) = 1 by omega), if_neg (show ¬ (3 : Int) = 2 by omega)] at *
    cases s with
    | nil => simp at hp
    | cons x l =>
      simp only [List.headD_cons, List.tail_cons] at *
      intro hm
      have := h.one x hp
      rw [List.count_cons_self] at this
      have := List.count_pos_iff.2 hm
      omega
  · by_cases h4 : kind = 4
    · subst h4
      simp only [if_true, if_neg (show ¬ (4 : Int) = 1 by omega), if_neg (show ¬ (4 : Int) = 2 by omega), if_neg (show ¬ (4 : Int) = 3 by omega)] at *
      rcases List.eq_nil_or_concat s with e | ⟨l, x, e⟩
      · rw [e] at hp; simp at hp
      · rw [List.concat_eq_append] at e
        subst e
        rw [List.getLastD_concat, List.dropLast_concat] at *
        intro hm
        have h1 := h.one x hp
        rw [List.count_append, List.count_singleton_self] at h1
        have h2 := List.count_pos_iff.2 hm
        omega
    · simp only [if_neg h3, if_neg h4] at hp
      omega
/-- What is not there and came ahead does not come again. -/
theorem gone_stays {s : List Int} {j : Int} (h : j ∉ s) (hj : j < k) (kind : Int) : j ∉ dqL most s kind k := by
  unfold dqL
  repeat' split
  · simp only [List.mem_cons, not_or]; exact ⟨by omega, h⟩
  · exact h
  · simp only [List.mem_append, List.mem_singleton, not_or]; exact ⟨h, by omega⟩
  · exact h
  · exact fun hm => h (List.mem_of_mem_tail hm)
  · exact fun hm => h (List.dropLast_subset _ hm)
  · exact h
theorem gone_later {j : Int} {k : Nat} (h : j ∉ dqAt most s0 ks k) (hj : j < k) : ∀ d, j ∉ dqAt most s0 ks (k + d)
  | 0 => h
  | d + 1 => gone_stays (k := k + d) (gone_later h hj d) (by omega) _
theorem met_later (h0 : Once s0 0) {k i : Nat} (hki : k < i) (hp : 0 ≤ dqP (dqAt most s0 ks k) (ks k)) : dqP (dqAt most s0 ks k) (ks k) ∉ dqAt most s0 ks i := by
  obtain ⟨d, rfl⟩ := Nat.exists_eq_add_of_le hki
  have ho := once_at (most := most) h0 ks k
  have hl : dqP (dqAt most s0 ks k) (ks k) < (k + 1 : Nat) := by
    have : dqP (dqAt most s0 ks k) (ks k) < k := by
      unfold dqP
      split
      · exact headD_in ho.low _ (by omega)
      · split
        · exact getLastD_in ho.low _ (by omega)
        · omega
    omega
  exact gone_later (k := k + 1) (met_gone ho (ks k) hp) hl d
/-- Who is met stood there. -/
theorem met_in {s : List Int} {kind : Int} (hp : 0 ≤ dqP s kind) : dqP s kind ∈ s := by
  unfold dqP at *
  split
  · rename_i h3
    rw [if_pos h3] at hp
    cases s with
    | nil => simp at hp
    | cons x l => simp
  · rename_i h3
    rw [if_neg h3] at hp
    split
    · rename_i h4
      rw [if_pos h4] at hp
      rcases List.eq_nil_or_concat s with e | ⟨l, x, e⟩
      · rw [e] at hp; simp at hp
      · rw [List.concat_eq_append] at e
        rw [e, List.getLastD_concat]; simp
    · rename_i h4
      rw [if_neg h4] at hp
      omega
/-- Nobody is met twice. -/
theorem met_once {h0 : Once s0 0} {k i : Nat} (hki : k < i) (hp : 0 ≤ dqP (dqAt most s0 ks k) (ks k)) : dqP (dqAt most s0 ks i) (ks i) ≠ dqP (dqAt most s0 ks k) (ks k) := fun e =>
  met_later h0 hki hp (e ▸ met_in (e ▸ hp))
/-- Who stands there came ahead, was a push, and was told Done. -/
theorem stood {j : Int} (h0 : ∀ j ∈ s0, j < 0) (hj : 0 ≤ j) : ∀ k, j ∈ dqAt most s0 ks k → j < k ∧ (ks j.toNat = 1 ∨ ks j.toNat = 2) ∧ dqC most (dqAt most s0 ks j.toNat) (ks j.toNat) = 1
  | 0, h => by have := h0 j h; omega
  | k + 1, h => by
    by_cases hm : j ∈ dqAt most s0 ks k
    · obtain ⟨h1, h2, h3⟩ := stood h0 hj k hm
      exact ⟨by omega, h2, h3⟩
    · simp only [dqAt] at h
      have hk : j = k ∧ (ks k = 1 ∨ ks k = 2) ∧ ((dqAt most s0 ks k).length : Int) < most := by
        unfold dqL at h
        split at h
        · rename_i h1
          split at h
          · rename_i h2
            simp only [List.mem_cons] at h
            rcases h with h | h
            · exact ⟨h, .inl h1, h2⟩
            · exact absurd h hm
          · exact absurd h hm
        · split at h
          · rename_i h1
            split at h
            · rename_i h2
              simp only [List.mem_append, List.mem_singleton] at h
              rcases h with h | h
              · exact absurd h hm
              · exact ⟨h, .inr h1, h2⟩
            · exact absurd h hm
          · split at h
            · exact absurd (List.mem_of_mem_tail h) hm
            · split at h
              · exact absurd (List.dropLast_subset _ h) hm
              · exact absurd h hm
      obtain ⟨rfl, h2, h3⟩ := hk
      rw [show ((k : Nat) : Int).toNat = k by omega]
      refine ⟨by omega, h2, ?_⟩
      unfold dqC
      rw [if_pos h2, if_pos h3]
end

end Go.Proofs.YtniefplgijpckaaGreat.D10
namespace Go.Proofs.YtniefplgijpckaaGreat.D10
theorem infoI : (Tryz.prog.info? 3).map (fun i => (i.zero, i.size, i.bytes)) = some (some (.int .i64 0), 1, 8) := by kernel_rfl
end Go.Proofs.YtniefplgijpckaaGreat.D10
namespace Go.Proofs.YtniefplgijpckaaGreat.D10
open Go.RowKit

/-- How many of the items that were there are left, and the places of the pushes that wait, behind an operation. -/
def lineStep (most : Int) (s : Int × List Int) (k kind : Int) : Int × List Int :=
  if kind = 1 then (if s.1 + s.2.length < most then (s.1, s.2 ++ [k]) else s)
  else if kind = 2 then (if s.2 = [] then (if 0 < s.1 then (s.1 - 1, []) else s) else (s.1, s.2.dropLast))
  else s
/-- And behind the first ones of many, of these kinds. -/
def lineAt (most there : Int) (ks : Nat → Int) : Nat → Int × List Int
  | 0 => (there, [])
  | k + 1 => lineStep most (lineAt most there ks k) k (ks k)
/-- The code that one is told. -/
def lineC (most : Int) (s : Int × List Int) (kind : Int) : Int :=
  if kind = 1 then (if s.1 + s.2.length < most then 1 else 3)
  else if kind = 2 then (if s.2 = [] then (if 0 < s.1 then 2 else 4) else 2)
  else 5
/-- The push that one meets. -/
def lineP (s : Int × List Int) (kind : Int) : Int := if kind = 2 then s.2.getLastD (-1) else -1

/-- The codes of the first n. -/
def codesL (most there : Int) (ks : Nat → Int) (n : Nat) : List Int := (List.range n).map fun k => lineC most (lineAt most there ks k) (ks k)
/-- Whom the first n meet. -/
def pairsL (most there : Int) (ks : Nat → Int) (n : Nat) : List Int := (List.range n).map fun k => lineP (lineAt most there ks k) (ks k)

section
variable {most there : Int} {ks : Nat → Int} {n k : Nat}
theorem codesL_length : (codesL most there ks n).length = n := by simp [codesL]
theorem pairsL_length : (pairsL most there ks n).length = n := by simp [pairsL]
theorem codesL_snoc : codesL most there ks (n + 1) = codesL most there ks n ++ [lineC most (lineAt most there ks n) (ks n)] := by simp [codesL, List.range_succ]
theorem pairsL_snoc : pairsL most there ks (n + 1) = pairsL most there ks n ++ [lineP (lineAt most there ks n) (ks n)] := by simp [pairsL, List.range_succ]
theorem codesL_getD (h : k < n) : (codesL most there ks n).getD k 0 = lineC most (lineAt most there ks k) (ks k) := by simp [codesL, List.getD, h]
theorem pairsL_getD (h : k < n) : (pairsL most there ks n).getD k 0 = lineP (lineAt most there ks k) (ks k) := by simp [pairsL, List.getD, h]

/-- What holds of a line. -/
structure LineOk (most there : Int) (k : Nat) (s : Int × List Int) : Prop where
  low : 0 ≤ s.1
  high : s.1 ≤ there
  room : s.1 + s.2.length ≤ most
  places : ∀ j ∈ s.2, 0 ≤ j ∧ j < k

theorem lineStep_ok {s : Int × List Int} (h : LineOk most there k s) (kind : Int) : LineOk most there (k + 1) (lineStep most s k kind) := by
  obtain ⟨h1, h2, h3, h4⟩ := h
  have up : ∀ j ∈ s.2, 0 ≤ j ∧ j < ((k + 1 : Nat) : Int) := fun j hj => by have := h4 j hj; omega
  unfold lineStep
  split
  · split
    · refine ⟨h1, h2, by simp; omega, fun j hj => ?_⟩
      simp only [List.mem_append, List.mem_singleton] at hj
      rcases hj with hj | rfl
      · exact up j hj
      · omega
    · exact ⟨h1, h2, h3, up⟩
  · split
    · split
      · split
        · refine ⟨by omega, by omega, ?_, fun j hj => by simp at hj⟩
          simp; omega
        · exact ⟨h1, h2, h3, up⟩
      · refine ⟨h1, h2, ?_, fun j hj => up j (List.dropLast_subset _ hj)⟩
        simp only [List.length_dropLast]; omega
    · exact ⟨h1, h2, h3, up⟩
theorem lineAt_ok (h0 : 0 ≤ there) (h1 : there ≤ most) (ks : Nat → Int) : ∀ k, LineOk most there k (lineAt most there ks k)
  | 0 => ⟨h0, Int.le_refl _, by simpa [lineAt] using h1, fun j hj => by simp [lineAt] at hj⟩
  | k + 1 => by
    have h := lineStep_ok (lineAt_ok h0 h1 ks k) (ks k)
    simpa [lineAt] using h

/-- A line at a stack without room has nothing. -/
theorem lineAt_none (ks : Nat → Int) (k : Nat) : lineAt 0 0 ks k = (0, []) := by
  have h := lineAt_ok (Int.le_refl 0) (Int.le_refl 0) ks k
  obtain ⟨h1, h2, h3, _⟩ := h
  have e1 : (lineAt 0 0 ks k).1 = 0 := by omega
  have e2 : (lineAt 0 0 ks k).2 = [] := List.eq_nil_of_length_eq_zero (by omega)
  exact Prod.ext e1 e2

theorem lineP_in {s : Int × List Int} (h : LineOk most there k s) (kind : Int) : -1 ≤ lineP s kind ∧ lineP s kind < k := by
  unfold lineP
  split
  · rcases List.eq_nil_or_concat s.2 with e | ⟨l, x, e⟩
    · rw [e]; simp; omega
    · have := h.places x (by rw [e]; simp)
      rw [e, List.concat_eq_append, List.getLastD_concat]; omega
  · omega
theorem lineC_in (most : Int) (s : Int × List Int) (kind : Int) : 0 ≤ lineC most s kind ∧ lineC most s kind ≤ 255 := by
  unfold lineC
  repeat' split
  all_goals omega
end

section
variable {w w' : World} {b : Nat} {k : IntKind} {t : TypeId} {xs : List Int}
end

/-- A variable that holds a list, whose block is b. -/
def SBx (w : World) (B : Nat) (t : TypeId) (b n : Nat) : Prop := w.heap[B]? = some (.cells #[.slice (some ⟨b, 0, none⟩) n n] t (0, 0))
section
variable {w w' : World} {B b n : Nat} {t : TypeId}
theorem SBx.lt (h : SBx w B t b n) : B < w.heap.size := lt_of_block h
theorem SBx.keep (h : SBx w B t b n) (hb : w'.heap[B]? = w.heap[B]?) : SBx w' B t b n := hb.trans h
theorem SBx.cell (h : SBx w B t b n) : w.cell? ⟨B, 0, none⟩ = some (.slice (some ⟨b, 0, none⟩) n n) := by unfold SBx at h; simp [World.cell?, h]
theorem SBx.new (w : World) (t : TypeId) (b n : Nat) : SBx (w.alloc (.cells #[.slice (some ⟨b, 0, none⟩) n n] t)) w.heap.size t b n := heap_alloc_new w _
end

/-- What is told, after k of n. -/
def codesK (most there : Int) (ks : Nat → Int) (n k : Nat) : List Int := codesL most there ks k ++ List.replicate (n - k) 0
def pairsK (most there : Int) (ks : Nat → Int) (n k : Nat) : List Int := pairsL most there ks k ++ List.replicate (n - k) (-1)
section
variable {most there : Int} {ks : Nat → Int} {n k : Nat}
theorem codesK_length (h : k ≤ n) : (codesK most there ks n k).length = n := by simp [codesK, codesL_length]; omega
theorem pairsK_length (h : k ≤ n) : (pairsK most there ks n k).length = n := by simp [pairsK, pairsL_length]; omega
theorem codesK_all : codesK most there ks n n = codesL most there ks n := by simp [codesK]
theorem pairsK_all : pairsK most there ks n n = pairsL most there ks n := by simp [pairsK]
theorem codesK_none : codesK most there ks n 0 = List.replicate n 0 := by simp [codesK, codesL]
theorem pairsK_none : pairsK most there ks n 0 = List.replicate n (-1) := by simp [pairsK, pairsL]
theorem codesK_put (h : k < n) : (codesK most there ks n k).set k (lineC most (lineAt most there ks k) (ks k)) = codesK most there ks n (k + 1) := by
  unfold codesK
  rw [List.set_append_right _ _ (by rw [codesL_length]; omega), codesL_length, Nat.sub_self, show n - k = (n - (k + 1)) + 1 by omega, List.replicate_succ, List.set_cons_zero, codesL_snoc]
  simp
theorem pairsK_put (h : k < n) : (pairsK most there ks n k).set k (lineP (lineAt most there ks k) (ks k)) = pairsK most there ks n (k + 1) := by
  unfold pairsK
  rw [List.set_append_right _ _ (by rw [pairsL_length]; omega), pairsL_length, Nat.sub_self, show n - k = (n - (k + 1)) + 1 by omega, List.replicate_succ, List.set_cons_zero, pairsL_snoc]
  simp
theorem pairsK_same (h : k < n) (e : lineP (lineAt most there ks k) (ks k) = -1) : pairsK most there ks n k = pairsK most there ks n (k + 1) := by
  unfold pairsK
  rw [pairsL_snoc, e, show n - k = (n - (k + 1)) + 1 by omega, List.replicate_succ]
  simp
end

/-- How many items there may be said to be, of those that may be. -/
def haveOf (x m : Int) : Int := if x < 0 then 0 else if m < x then m else x
theorem haveOf_in (x m : Int) (hm : 0 ≤ m) : 0 ≤ haveOf x m ∧ haveOf x m ≤ m := by unfold haveOf; split <;> (try split) <;> omega

/-- The kinds of operations. -/
def kindsOf (os : List (Int × Int)) (k : Nat) : Int := (os.getD k (0, 0)).1

section
variable {w w' : World} {b i : Nat} {rs : List (Int × Int)}
end

/-- How many meet. -/
def metN (xs : List Int) : Int := ((xs.filter (fun x => x != -1)).length : Int)
theorem metN_snoc (xs : List Int) (x : Int) : metN (xs ++ [x]) = metN xs + if x = -1 then 0 else 1 := by
  unfold metN
  rw [List.filter_append]
  by_cases h : x = -1 <;> simp [h]
theorem metN_take (xs : List Int) (k : Nat) (h : k < xs.length) : metN (xs.take (k + 1)) = metN (xs.take k) + if xs.getD k 0 = -1 then 0 else 1 := by
  rw [List.take_succ_eq_append_getElem h, metN_snoc]
  simp [List.getD, h]
theorem metN_in (xs : List Int) : 0 ≤ metN xs ∧ metN xs ≤ xs.length := by
  unfold metN
  exact ⟨by omega, by have := List.length_filter_le (fun x : Int => x != -1) xs; omega⟩

theorem infoU8 : (Tryz.prog.info? 5).map (fun i => (i.zero, i.size, i.bytes)) = some (some (.int .u8 0), 1, 1) := by kernel_rfl

/-- What Pairs leaves. -/
def PairsPost (w : World) (most there : Int) (ks : Nat → Int) (n : Nat) (e : Ending) (w' : World) : Prop :=
  ∃ gw gc, e = .returned (.tuple #[.slice (some ⟨gw, 0, none⟩) n n, .slice (some ⟨gc, 0, none⟩) n n]) ∧ Rw w' gw .i64 3 (pairsL most there ks n) ∧ Rw w' gc .u8 5 (codesL most there ks n) ∧ w.heap.size ≤ gw ∧ w.heap.size ≤ gc ∧ gw ≠ gc ∧ Below w.heap.size w w'

theorem haveOf_cases (x m : Int) (hm : 0 ≤ m) : ((x < 0 ∧ m = 0) ∧ haveOf x m = 0) ∨ ((x < 0 ∧ 0 < m) ∧ haveOf x m = 0) ∨ ((x = 0 ∧ m = 0) ∧ haveOf x m = 0) ∨ ((x = 0 ∧ 0 < m) ∧ haveOf x m = 0) ∨ ((0 < x ∧ x < m) ∧ haveOf x m = x) ∨ ((0 < x ∧ x = m) ∧ haveOf x m = x) ∨ ((0 < m ∧ m < x) ∧ haveOf x m = m) ∨ ((m = 0 ∧ 0 < x) ∧ haveOf x m = 0) := by
  unfold haveOf
  rcases (show (x < 0 ∧ m = 0) ∨ (x < 0 ∧ 0 < m) ∨ (x = 0 ∧ m = 0) ∨ (x = 0 ∧ 0 < m) ∨ (0 < x ∧ x < m) ∨ (0 < x ∧ x = m) ∨ (0 < m ∧ m < x) ∨ (m = 0 ∧ 0 < x) from by omega) with h | h | h | h | h | h | h | h
  · left; exact ⟨h, if_pos h.1⟩
  · right; left; exact ⟨h, if_pos h.1⟩
  · right; right; left; exact ⟨h, by rw [if_neg (by omega), if_neg (by omega)]; exact h.1⟩
  · right; right; right; left; exact ⟨h, by rw [if_neg (by omega), if_neg (by omega)]; exact h.1⟩
  · right; right; right; right; left; exact ⟨h, by rw [if_neg (by omega), if_neg (by omega)]⟩
  · right; right; right; right; right; left; exact ⟨h, by rw [if_neg (by omega), if_neg (by omega)]⟩
  · right; right; right; right; right; right; left; exact ⟨h, by rw [if_neg (by omega), if_pos h.2]⟩
  · right; right; right; right; right; right; right; exact ⟨h, by rw [if_neg (by omega), if_pos (by omega)]; exact h.1⟩

theorem mostOf_cases (m : Int) : (m < 0 ∧ mostOf m = 0) ∨ (m = 0 ∧ mostOf m = 0) ∨ ((0 < m ∧ m < 1000) ∧ mostOf m = m) ∨ (m = 1000 ∧ mostOf m = 1000) ∨ (1000 < m ∧ mostOf m = 1000) := by
  unfold mostOf
  rcases (show m < 0 ∨ m = 0 ∨ (0 < m ∧ m < 1000) ∨ m = 1000 ∨ 1000 < m from by omega) with h | h | h | h | h
  · left; exact ⟨h, if_pos h⟩
  · subst h; right; left; exact ⟨rfl, rfl⟩
  · right; right; left; exact ⟨h, by rw [if_neg (by omega), if_neg (by omega)]⟩
  · subst h; right; right; right; left; exact ⟨rfl, rfl⟩
  · right; right; right; right; exact ⟨h, by rw [if_neg (by omega), if_pos h]⟩

theorem lineAt_congr {most there : Int} {ks ks' : Nat → Int} : ∀ {k : Nat}, (∀ i, i < k → ks i = ks' i) → lineAt most there ks k = lineAt most there ks' k
  | 0, _ => rfl
  | k + 1, h => by
    have ih := lineAt_congr (most := most) (there := there) (k := k) (fun i hi => h i (by omega))
    simp only [lineAt]
    rw [ih, h k (by omega)]
theorem pairsL_congr {most there : Int} {ks ks' : Nat → Int} {n : Nat} (h : ∀ i, i < n → ks i = ks' i) : pairsL most there ks n = pairsL most there ks' n := by
  unfold pairsL
  refine List.map_congr_left fun k hk => ?_
  have hk : k < n := by simpa using hk
  rw [lineAt_congr (fun i hi => h i (by omega)), h k hk]
theorem codesL_congr {most there : Int} {ks ks' : Nat → Int} {n : Nat} (h : ∀ i, i < n → ks i = ks' i) : codesL most there ks n = codesL most there ks' n := by
  unfold codesL
  refine List.map_congr_left fun k hk => ?_
  have hk : k < n := by simpa using hk
  rw [lineAt_congr (fun i hi => h i (by omega)), h k hk]
theorem kindsOf_take (os : List (Int × Int)) (k : Nat) : ∀ i, i < k → kindsOf (os.take k) i = kindsOf os i := by
  intro i hi
  simp [kindsOf, List.getD, hi]
theorem pairsL_take {most there : Int} {ks : Nat → Int} {n k : Nat} (h : k ≤ n) : (pairsL most there ks n).take k = pairsL most there ks k := by
  unfold pairsL
  rw [← List.map_take, List.take_range, Nat.min_eq_left h]
theorem metN_mono (xs : List Int) (k : Nat) : metN (xs.take k) ≤ metN xs := by
  have h : metN xs = metN (xs.take k) + metN (xs.drop k) := by
    have := List.take_append_drop k xs
    have e : metN (xs.take k ++ xs.drop k) = metN (xs.take k) + metN (xs.drop k) := by
      unfold metN
      rw [List.filter_append]
      simp
    rw [this] at e
    exact e
  have := (metN_in (xs.drop k)).1
  omega
theorem _root_.Go.Proofs.YtniefplgijpckaaGreat.OpsAt.take {w : World} {ao : Option Addr} {n : Nat} {os : List (Int × Int)} (h : OpsAt w ao n os) {k : Nat} (hk : k ≤ n) : OpsAt w ao k (os.take k) := by
  refine ⟨by simp [h.1]; omega, fun hp => ?_⟩
  obtain ⟨b, off, e, hb, hc⟩ := h.2 (by omega)
  refine ⟨b, off, e, hb, fun i hi => ?_⟩
  have := hc i (by omega)
  simpa [List.getD, hi] using this

theorem _root_.Go.Proofs.YtniefplgijpckaaGreat.Reads.front {k : IntKind} {w : World} {ao : Option Addr} {n m : Nat} {zs : List Int} (h : Reads k w ao n zs) (hm : m ≤ n) : Reads k w ao m (zs.take m) := by
  refine ⟨by rw [List.length_take, h.1]; omega, fun hp => ?_⟩
  obtain ⟨b, off, e, hb, hc⟩ := h.2 (by omega)
  refine ⟨b, off, e, hb, fun i hi => ?_⟩
  rw [hc i (by omega)]
  simp [List.getD, hi]

/-- The stack of places that a line speaks of. -/
def srow (s : Int × List Int) : List Int := List.replicate s.1.toNat (-1) ++ s.2
section
variable {most there t : Int} {ps : List Int} {k kind : Int}
theorem srow_len (h : 0 ≤ t) : ((srow (t, ps)).length : Int) = t + ps.length := by simp [srow]; omega
theorem srow_push (h0 : 0 ≤ t) (hf : ((srow (t, ps)).length : Int) < most) : srow (lineStep most (t, ps) k 1) = srow (t, ps) ++ [k] ∧ lineC most (t, ps) 1 = 1 ∧ lineP (t, ps) 1 = -1 := by
  rw [srow_len h0] at hf
  simp [lineStep, lineC, lineP, hf, srow]
theorem srow_full (h0 : 0 ≤ t) (hf : ¬ ((srow (t, ps)).length : Int) < most) : srow (lineStep most (t, ps) k 1) = srow (t, ps) ∧ lineC most (t, ps) 1 = 3 ∧ lineP (t, ps) 1 = -1 := by
  rw [srow_len h0] at hf
  simp [lineStep, lineC, lineP, hf]
theorem srow_none (h0 : 0 ≤ t) (he : srow (t, ps) = []) : srow (lineStep most (t, ps) k 2) = [] ∧ lineC most (t, ps) 2 = 4 ∧ lineP (t, ps) 2 = -1 := by
  have hl := srow_len (ps := ps) h0
  rw [he] at hl
  have hp : ps = [] := List.eq_nil_of_length_eq_zero (by simp at hl; omega)
  subst hp
  obtain rfl : t = 0 := by simp at hl; omega
  simp [lineStep, lineC, lineP, srow]
theorem srow_pop (h0 : 0 ≤ t) {l : List Int} {z : Int} (he : srow (t, ps) = l ++ [z]) : srow (lineStep most (t, ps) k 2) = l ∧ lineC most (t, ps) 2 = 2 ∧ lineP (t, ps) 2 = z := by
  rcases List.eq_nil_or_concat ps with e | ⟨ys, j, e⟩
  · subst e
    have hl := srow_len (ps := []) h0
    rw [he] at hl
    simp at hl
    obtain ⟨m, rfl⟩ : ∃ m : Nat, t = ((m + 1 : Nat) : Int) := ⟨t.toNat - 1, by omega⟩
    have e2 : ((m + 1 : Nat) : Int).toNat = m + 1 := by omega
    have e1 : (((m + 1 : Nat) : Int) - 1).toNat = m := by omega
    unfold srow at he
    simp only [e2, List.append_nil, List.replicate_succ'] at he
    obtain ⟨ha, hb⟩ := List.append_inj' he rfl
    have ht : 0 < ((m + 1 : Nat) : Int) := by omega
    refine ⟨?_, ?_, ?_⟩
    · simp only [lineStep, if_neg (show ¬ (2 : Int) = 1 by omega), if_true, if_pos ht, srow, e1, List.append_nil]
      exact ha
    · simp only [lineC, if_neg (show ¬ (2 : Int) = 1 by omega), if_true, if_pos ht]
    · simp only [lineP, if_true, List.getLastD_nil]
      simpa using hb
  · rw [List.concat_eq_append] at e
    subst e
    unfold srow at he
    simp only at he
    rw [← List.append_assoc] at he
    obtain ⟨ha, hb⟩ := List.append_inj' he rfl
    obtain rfl : j = z := by simpa using hb
    refine ⟨?_, by simp [lineC], by simp [lineP]⟩
    simp [lineStep, srow, ← ha]
theorem srow_bad (h1 : kind ≠ 1) (h2 : kind ≠ 2) : srow (lineStep most (t, ps) k kind) = srow (t, ps) ∧ lineC most (t, ps) kind = 5 ∧ lineP (t, ps) kind = -1 := by
  simp [lineStep, lineC, lineP, h1, h2]
end

/-- No block is both ones'. -/
def Off2 (v v' : Value) : Prop := ∀ g, v.ownBlock = some g → v'.ownBlock ≠ some g
theorem Off2.symm {v v' : Value} (h : Off2 v v') : Off2 v' v := fun g a b => h g b a
theorem Off2.nil (v : Value) : Off2 (.slice none 0 0) v := fun g h => by simp [Value.ownBlock] at h

/-- Three rows of one's own, none of which lies in another one's block. -/
structure R3 (B : Nat) (w0 : World) (v1 v2 v3 : Value) (l1 l2 l3 : List Int) (W : World) : Prop where
  o1 : W.ownsRow B 3 1 v1 l1.length (l1.map (Value.int .i64))
  o2 : W.ownsRow B 3 1 v2 l2.length (l2.map (Value.int .i64))
  o3 : W.ownsRow B 5 1 v3 l3.length (l3.map (Value.int .u8))
  d12 : Off2 v1 v2
  d13 : Off2 v1 v3
  d23 : Off2 v2 v3
  b : Below B w0 W
  s : B ≤ W.heap.size

section
variable {B : Nat} {w0 W W' : World} {v1 v2 v3 v' : Value} {l1 l2 l3 : List Int} {x : Int} {o : Obj}
theorem R3.start (w : World) : R3 w.heap.size w (.slice none 0 0) (.slice none 0 0) (.slice none 0 0) [] [] [] w :=
  ⟨World.ownsRow_nil _ _ _ _, World.ownsRow_nil _ _ _ _, World.ownsRow_nil _ _ _ _, Off2.nil _, Off2.nil _, Off2.nil _, Below.refl _ _, Nat.le_refl _⟩
theorem R3.alloc (h : R3 B w0 v1 v2 v3 l1 l2 l3 W) (o : Obj) : R3 B w0 v1 v2 v3 l1 l2 l3 (W.alloc o) :=
  ⟨h.o1.alloc _, h.o2.alloc _, h.o3.alloc _, h.d12, h.d13, h.d23, h.b.alloc h.s _, Nat.le_trans h.s (by simp)⟩
theorem grown_keep {n : Nat} {e : TypeId} {v u : Value} {ys : List Value} (hg : W.grownBy W' v.ownBlock) (hu : W.ownsRow B e 1 u n ys) (hd : Off2 v u) : W'.ownsRow B e 1 u n ys :=
  own_keep hu (fun g hg' => hg.block g (hu.lt g hg').2 (fun e => hd g e.symm hg'))
theorem grown_off {n : Nat} {e : TypeId} {v u v' : Value} {ys : List Value} (hl : ∀ g, v'.ownBlock = some g → v.ownBlock = some g ∨ W.heap.size ≤ g) (hu : W.ownsRow B e 1 u n ys) (hd : Off2 v u) : Off2 v' u := fun g a b => by
  rcases hl g a with h | h
  · exact hd g h b
  · have := (hu.lt g b).2; omega
theorem R3.app1 (h : R3 B w0 v1 v2 v3 l1 l2 l3 W) (ho : W'.ownsRow B 3 1 v' (l1.length + 1) (l1.map (Value.int .i64) ++ [.int .i64 x])) (hg : W.grownBy W' v1.ownBlock) (hl : ∀ g, v'.ownBlock = some g → v1.ownBlock = some g ∨ W.heap.size ≤ g) : R3 B w0 v' v2 v3 (l1 ++ [x]) l2 l3 W' :=
  ⟨by simpa using ho, grown_keep hg h.o2 h.d12, grown_keep hg h.o3 h.d13, grown_off hl h.o2 h.d12, grown_off hl h.o3 h.d13, h.d23, h.b.grown hg h.s (fun k e => (h.o1.lt k e).1), Nat.le_trans h.s hg.size⟩
theorem R3.app2 (h : R3 B w0 v1 v2 v3 l1 l2 l3 W) (ho : W'.ownsRow B 3 1 v' (l2.length + 1) (l2.map (Value.int .i64) ++ [.int .i64 x])) (hg : W.grownBy W' v2.ownBlock) (hl : ∀ g, v'.ownBlock = some g → v2.ownBlock = some g ∨ W.heap.size ≤ g) : R3 B w0 v1 v' v3 l1 (l2 ++ [x]) l3 W' :=
  ⟨grown_keep hg h.o1 h.d12.symm, by simpa using ho, grown_keep hg h.o3 h.d23, (grown_off hl h.o1 h.d12.symm).symm, h.d13, grown_off hl h.o3 h.d23, h.b.grown hg h.s (fun k e => (h.o2.lt k e).1), Nat.le_trans h.s hg.size⟩
theorem R3.app3 (h : R3 B w0 v1 v2 v3 l1 l2 l3 W) (ho : W'.ownsRow B 5 1 v' (l3.length + 1) (l3.map (Value.int .u8) ++ [.int .u8 x])) (hg : W.grownBy W' v3.ownBlock) (hl : ∀ g, v'.ownBlock = some g → v3.ownBlock = some g ∨ W.heap.size ≤ g) : R3 B w0 v1 v2 v' l1 l2 (l3 ++ [x]) W' :=
  ⟨grown_keep hg h.o1 h.d13.symm, grown_keep hg h.o2 h.d23.symm, by simpa using ho, h.d12, (grown_off hl h.o1 h.d13.symm).symm, (grown_off hl h.o2 h.d23.symm).symm, h.b.grown hg h.s (fun k e => (h.o3.lt k e).1), Nat.le_trans h.s hg.size⟩
theorem R3.cut {g cap q : Nat} {z : Int} (h : R3 B w0 (.slice (some ⟨g, 0, none⟩) (q + 1) cap) v2 v3 (l1 ++ [z]) l2 l3 W) (hq : q = l1.length) : R3 B w0 (.slice (some ⟨g, 0, none⟩) q cap) v2 v3 l1 l2 l3 W := by
  subst hq
  have ho := h.o1
  simp only [List.length_append, List.length_cons, List.length_nil, Nat.zero_add] at ho
  have hc := own_cut ho (Nat.le_succ l1.length)
  exact ⟨by simpa [List.take_append] using hc, h.o2, h.o3, h.d12, h.d13, h.d23, h.b, h.s⟩
end

theorem refMost (n : Int) (w : World) :
    Calls Tryz.prog 49 #[.int .i64 n] w fun e w' => e = .returned (.int .i64 (mostOf n)) ∧ w = w' := by
  rcases (show n < 0 ∨ 1000 < n ∨ (0 ≤ n ∧ n ≤ 1000) from by omega) with h | h | h
  · have HE := Lib.hid (show mostOf n = 0 by unfold mostOf; rw [if_pos h])
    have h2 : n < 1000 := by omega
    go_enter Tryz.func49, Tryz.ntmps49
    go_wp2
    go_ret
    exact ⟨by rw [HE.out]; rfl, rfl⟩
  · have HE := Lib.hid (show mostOf n = 1000 by unfold mostOf; rw [if_neg (by omega), if_pos h])
    go_enter Tryz.func49, Tryz.ntmps49
    go_wp2
    go_ret
    exact ⟨by rw [HE.out]; rfl, rfl⟩
  · have HE := Lib.hid (mostOf_self n h.1 h.2)
    obtain ⟨h0, h1⟩ := h
    rcases (show n = 0 ∨ n = 1000 ∨ (0 < n ∧ n < 1000) from by omega) with h | h | ⟨h2, h3⟩
    · subst h
      go_enter Tryz.func49, Tryz.ntmps49
      go_wp2
      go_ret
      exact ⟨by rw [HE.out]; rfl, rfl⟩
    · subst h
      go_enter Tryz.func49, Tryz.ntmps49
      go_wp2
      go_ret
      exact ⟨by rw [HE.out]; rfl, rfl⟩
    · go_enter Tryz.func49, Tryz.ntmps49
      go_wp2
      go_ret
      exact ⟨by rw [HE.out]; rfl, rfl⟩

/-- What the document's Pairs leaves. -/
def RefPost (w : World) (most there : Int) (ks : Nat → Int) (n : Nat) (e : Ending) (w' : World) : Prop :=
  ∃ ap cp ac cc, e = .returned (.tuple #[.slice ap n cp, .slice ac n cc]) ∧ Reads .i64 w' ap n (pairsL most there ks n) ∧ Reads .u8 w' ac n (codesL most there ks n) ∧ Below w.heap.size w w'

section
variable {most there : Int} {ks : Nat → Int} {n : Nat}
end

/-- Bools in a block of their own. -/
def BRw (w : World) (b : Nat) (bs : List Bool) : Prop := w.heap[b]? = some (.cells (bs.map Value.bool).toArray 4 (0, 0))
section
variable {w w' : World} {b : Nat} {bs : List Bool}
theorem BRw.lt (h : BRw w b bs) : b < w.heap.size := lt_of_block h
theorem BRw.keep (h : BRw w b bs) (hb : w'.heap[b]? = w.heap[b]?) : BRw w' b bs := hb.trans h
theorem BRw.free (h : BRw w b bs) (j : Nat) : w.frozen? ⟨b, j, none⟩ = false := by unfold BRw at h; simp [World.frozen?, h]
theorem BRw.cell (h : BRw w b bs) {i : Nat} (hi : i < bs.length) : w.cell? ⟨b, i, none⟩ = some (.bool (bs.getD i false)) := by
  unfold BRw at h
  simp [World.cell?, h, List.getD, hi]
theorem BRw.set (h : BRw w b bs) (i : Nat) (x : Bool) : BRw (w.setCell ⟨b, i, none⟩ (.bool x)) b (bs.set i x) := by
  unfold BRw at h ⊢
  rw [heap_setCell_same w b i _ _ _ h]
  simp
end
theorem madeBools {w w1 : World} {n : Nat} (ho : w1.ownsRow w.heap.size 4 1 (.slice (some ⟨w.heap.size, 0, none⟩) n n) n (madeCells (Value.bool false).cells (n * 1)).toList) (hg : w.grownBy w1 none) :
    BRw w1 w.heap.size (List.replicate n false) ∧ Below w.heap.size w w1 := by
  have hr := rowWhole ho
  rw [show (Value.bool false).cells = #[Value.bool false] from rfl, Nat.mul_one, toList_madeCells_one] at hr
  exact ⟨by unfold BRw; rw [hr]; simp, (Below.refl _ _).grown hg (Nat.le_refl _) (by simp)⟩

end Go.Proofs.YtniefplgijpckaaGreat.D10
namespace Go.Proofs.YtniefplgijpckaaGreat.D10

/-- An operation's value. -/
def valOf (os : List (Int × Int)) (j : Int) : Int := (os.getD j.toNat (0, 0)).2
/-- The items behind the first k operations. -/
def itA (most : Int) (zs : List Int) (os : List (Int × Int)) : Nat → List Int
  | 0 => zs
  | k + 1 => dqL most (itA most zs os k) (kindsOf os k) (valOf os k)
/-- The code, and the value, that operation k is told. -/
def cdA (most : Int) (zs : List Int) (os : List (Int × Int)) (k : Nat) : Int := dqC most (itA most zs os k) (kindsOf os k)
def vlA (most : Int) (zs : List Int) (os : List (Int × Int)) (k : Nat) : Int := dqV (itA most zs os k) (kindsOf os k)
/-- What the first k are told. -/
def resL (most : Int) (zs : List Int) (os : List (Int × Int)) (k : Nat) : List (Int × Int) := (List.range k).map fun i => (cdA most zs os i, vlA most zs os i)
def resK (most : Int) (zs : List Int) (os : List (Int × Int)) (n k : Nat) : List (Int × Int) := resL most zs os k ++ List.replicate (n - k) (0, 0)

section
variable {most : Int} {zs : List Int} {os : List (Int × Int)} {n k : Nat}
theorem resL_length : (resL most zs os k).length = k := by simp [resL]
theorem resK_length (h : k ≤ n) : (resK most zs os n k).length = n := by simp [resK, resL_length]; omega
theorem resL_snoc : resL most zs os (k + 1) = resL most zs os k ++ [(cdA most zs os k, vlA most zs os k)] := by simp [resL, List.range_succ]
theorem resL_getD (h : k < n) : (resL most zs os n).getD k (0, 0) = (cdA most zs os k, vlA most zs os k) := by simp [resL, List.getD, h]
theorem resK_all : resK most zs os n n = resL most zs os n := by simp [resK]
theorem resK_none : resK most zs os n 0 = List.replicate n (0, 0) := by simp [resK, resL]
theorem resK_at (h : k < n) : (resK most zs os n k).getD k (0, 0) = (0, 0) := by
  unfold resK
  obtain ⟨d, hd⟩ : ∃ d, n - k = d + 1 := ⟨n - k - 1, by omega⟩
  simp [List.getD, resL_length, hd]
theorem resK_put (h : k < n) : (resK most zs os n k).set k (cdA most zs os k, vlA most zs os k) = resK most zs os n (k + 1) := by
  unfold resK
  rw [List.set_append_right _ _ (by rw [resL_length]; omega), resL_length, Nat.sub_self, show n - k = (n - (k + 1)) + 1 by omega, List.replicate_succ, List.set_cons_zero, resL_snoc]
  simp
/-- A code is written ahead of the rest. -/
def resC (most : Int) (zs : List Int) (os : List (Int × Int)) (n k : Nat) : List (Int × Int) := (resK most zs os n k).set k (cdA most zs os k, 0)
theorem resC_length (h : k ≤ n) : (resC most zs os n k).length = n := by simp [resC, resK_length h]
theorem resC_at (h : k < n) : (resC most zs os n k).getD k (0, 0) = (cdA most zs os k, 0) := by
  unfold resC
  simp [List.getD, resK_length (Nat.le_of_lt h), h]
theorem resC_set (h : k < n) : (resK most zs os n k).set k (cdA most zs os k, ((resK most zs os n k).getD k (0, 0)).2) = resC most zs os n k := by
  rw [resK_at h]; rfl
theorem resC_put (h : k < n) (x y : Int) (hx : x = cdA most zs os k) (hy : y = vlA most zs os k) : (resC most zs os n k).set k (x, y) = resK most zs os n (k + 1) := by
  unfold resC
  rw [List.set_set, hx, hy, resK_put h]
theorem resC_idle (h : k < n) (e : vlA most zs os k = 0) : resC most zs os n k = resK most zs os n (k + 1) := by
  rw [← resK_put h, e]; rfl

/-- What an operation makes of a deque of whatever. -/
def dqG {α : Type} (most : Int) (s : List α) (kind : Int) (x : α) : List α :=
  if kind = 1 then (if (s.length : Int) < most then x :: s else s) else if kind = 2 then (if (s.length : Int) < most then s ++ [x] else s) else if kind = 3 then s.tail else if kind = 4 then s.dropLast else s
theorem dqG_map {α : Type} (f : α → Int) (s : List α) (kind : Int) (x : α) : (dqG most s kind x).map f = dqL most (s.map f) kind (f x) := by
  unfold dqG dqL
  rw [List.length_map]
  repeat' split
  all_goals simp [List.map_tail, List.map_dropLast]

/-- Places, with the values of the items. -/
def pzAt (most : Int) (zs : List Int) (os : List (Int × Int)) : Nat → List (Int × Int)
  | 0 => zs.map fun z => (-1, z)
  | k + 1 => dqG most (pzAt most zs os k) (kindsOf os k) ((k : Int), valOf os k)
theorem pz_fst : ∀ k, (pzAt most zs os k).map Prod.fst = dqAt most (olds zs.length) (kindsOf os) k
  | 0 => by simp [pzAt, dqAt, olds, Function.comp_def, List.map_const']
  | k + 1 => by rw [pzAt, dqG_map, pz_fst k, dqAt]
theorem pz_snd : ∀ k, (pzAt most zs os k).map Prod.snd = itA most zs os k
  | 0 => by simp [pzAt, itA, Function.comp_def]
  | k + 1 => by rw [pzAt, dqG_map, pz_snd k, itA]
theorem pz_val : ∀ k, ∀ e ∈ pzAt most zs os k, e.1 ≠ -1 → e.2 = valOf os e.1
  | 0 => fun e he hn => by
    simp only [pzAt, List.mem_map] at he
    obtain ⟨z, _, rfl⟩ := he
    exact absurd rfl hn
  | k + 1 => fun e he hn => by
    have ih := pz_val k
    simp only [pzAt, dqG] at he
    split at he
    · split at he
      · simp only [List.mem_cons] at he
        rcases he with rfl | he
        · rfl
        · exact ih e he hn
      · exact ih e he hn
    · split at he
      · split at he
        · simp only [List.mem_append, List.mem_singleton] at he
          rcases he with he | rfl
          · exact ih e he hn
          · rfl
        · exact ih e he hn
      · split at he
        · exact ih e (List.mem_of_mem_tail he) hn
        · split at he
          · exact ih e (List.dropLast_subset _ he) hn
          · exact ih e he hn
theorem it_length (k : Nat) : (itA most zs os k).length = (dqAt most (olds zs.length) (kindsOf os) k).length := by
  rw [← pz_snd, ← pz_fst, List.length_map, List.length_map]
theorem code_same (k : Nat) : dqC most (dqAt most (olds zs.length) (kindsOf os) k) (kindsOf os k) = cdA most zs os k := by
  have hl := it_length (most := most) (zs := zs) (os := os) k
  have he : dqAt most (olds zs.length) (kindsOf os) k = [] ↔ itA most zs os k = [] := by
    rw [← List.length_eq_zero_iff, ← List.length_eq_zero_iff, hl]
  unfold cdA dqC
  rw [hl]
  by_cases h : itA most zs os k = []
  · rw [if_pos h, if_pos (he.2 h)]
  · rw [if_neg h, if_neg (fun x => h (he.1 x))]
theorem olds_neg (t : Int) : ∀ j ∈ olds t, j < 0 := fun j hj => by
  have := List.eq_of_mem_replicate hj
  omega

/-- Which push is met. -/
def metB (ps : List Int) (j : Int) : Bool := decide (0 ≤ j ∧ j ∈ ps)
theorem metB_old (ps : List Int) : metB ps (-1) = false := by simp [metB]

/-- Who meets whom, all n. -/
def psA (most : Int) (zs : List Int) (os : List (Int × Int)) (n : Nat) : List Int := dpL most (olds zs.length) (kindsOf os) n
/-- Whom k meets. -/
def ptA (most : Int) (zs : List Int) (os : List (Int × Int)) (k : Nat) : Int := dqP (dqAt most (olds zs.length) (kindsOf os) k) (kindsOf os k)
theorem ptA_in (hz : (zs.length : Int) ≤ most) (k : Nat) : -1 ≤ ptA most zs os k ∧ ptA most zs os k < k :=
  dqP_in (dqAt_ok (olds_ok (by omega) hz) (kindsOf os) k) _
theorem psA_getD (h : k < n) : (psA most zs os n).getD k 0 = ptA most zs os k := dpL_getD h
theorem psA_length : (psA most zs os n).length = n := dpL_length
theorem psA_mem {j : Int} : j ∈ psA most zs os n ↔ ∃ i, i < n ∧ ptA most zs os i = j := by
  simp [psA, dpL, ptA]
theorem metB_of (h : k < n) (hz : (zs.length : Int) ≤ most) (hp : ptA most zs os k ≠ -1) : metB (psA most zs os n) (ptA most zs os k) = true := by
  have := ptA_in (os := os) hz k
  simp only [metB, decide_eq_true_eq]
  exact ⟨by omega, psA_mem.2 ⟨k, h, rfl⟩⟩

/-- The items of a deque to which only those came that meet nobody. -/
def dkA (most : Int) (zs : List Int) (os : List (Int × Int)) (n k : Nat) : List Int := ((pzAt most zs os k).filter fun e => !metB (psA most zs os n) e.1).map Prod.snd
theorem dkA_le (k : Nat) : (dkA most zs os n k).length ≤ (pzAt most zs os k).length := by
  unfold dkA
  rw [List.length_map]
  exact List.length_filter_le _ _
theorem pz_le (hz : (zs.length : Int) ≤ most) (k : Nat) : ((pzAt most zs os k).length : Int) ≤ most := by
  have h := (dqAt_ok (k := k) (olds_ok (t := zs.length) (by omega) hz) (kindsOf os)).room
  rw [← pz_fst, List.length_map] at h
  exact h
theorem itA_le (hz : (zs.length : Int) ≤ most) (k : Nat) : ((itA most zs os k).length : Int) ≤ most := by
  rw [← pz_snd, List.length_map]; exact pz_le hz k
theorem dkA_zero : dkA most zs os n 0 = zs := by
  unfold dkA pzAt
  rw [List.filter_eq_self.2]
  · simp [Function.comp_def]
  · intro e he
    simp only [List.mem_map] at he
    obtain ⟨z, _, rfl⟩ := he
    simp [metB_old]
theorem dkA_all : dkA most zs os n n = itA most zs os n := by
  unfold dkA
  rw [List.filter_eq_self.2, pz_snd]
  intro e he
  simp only [Bool.not_eq_true', metB, decide_eq_false_iff_not, not_and]
  intro h0 hm
  obtain ⟨i, hi, hp⟩ := psA_mem.1 hm
  have hl := met_later (most := most) (ks := kindsOf os) (once_olds zs.length) hi (by show 0 ≤ ptA most zs os i; omega)
  refine hl ?_
  show ptA most zs os i ∈ _
  rw [hp, ← pz_fst]
  exact List.mem_map_of_mem he

theorem stepMeet (hz : (zs.length : Int) ≤ most) (h : k < n) (hp : ptA most zs os k ≠ -1) : dkA most zs os n (k + 1) = dkA most zs os n k ∧ vlA most zs os k = valOf os (ptA most zs os k) := by
  have hm := metB_of h hz hp
  have hv := pz_val (most := most) (zs := zs) (os := os) k
  unfold vlA dkA
  rw [pzAt, ← pz_snd]
  unfold ptA at hp hm ⊢
  rw [← pz_fst] at hp hm ⊢
  generalize pzAt most zs os k = s at *
  generalize psA most zs os n = ps at *
  generalize kindsOf os k = kd at *
  unfold dqP at hp hm ⊢
  unfold dqG dqV
  by_cases h3 : kd = 3
  · subst h3
    simp only [if_true, if_neg (show ¬ (3 : Int) = 1 by omega), if_neg (show ¬ (3 : Int) = 2 by omega)] at *
    cases s with
    | nil => simp at hp
    | cons e l =>
      simp only [List.map_cons, List.headD_cons, List.tail_cons] at *
      exact ⟨by rw [List.filter_cons, hm]; simp, hv e (by simp) hp⟩
  · by_cases h4 : kd = 4
    · subst h4
      simp only [if_true, if_neg (show ¬ (4 : Int) = 1 by omega), if_neg (show ¬ (4 : Int) = 2 by omega), if_neg (show ¬ (4 : Int) = 3 by omega)] at *
      rcases List.eq_nil_or_concat s with x | ⟨l, e, x⟩
      · rw [x] at hp; simp at hp
      · rw [List.concat_eq_append] at x
        subst x
        simp only [List.map_append, List.map_cons, List.map_nil, List.getLastD_concat, List.dropLast_concat] at *
        exact ⟨by rw [List.filter_append, List.filter_cons, hm]; simp, hv e (by simp) hp⟩
    · simp only [if_neg h3, if_neg h4] at hp
      exact absurd rfl hp
theorem stepFull (hc : cdA most zs os k = 3) : dkA most zs os n (k + 1) = dkA most zs os n k ∧ vlA most zs os k = 0 := by
  unfold cdA at hc
  unfold vlA dkA
  rw [pzAt]
  have hl : (itA most zs os k).length = (pzAt most zs os k).length := by rw [← pz_snd, List.length_map]
  unfold dqC at hc
  unfold dqG dqV
  rw [← hl]
  split at hc
  · rename_i hk
    split at hc
    · omega
    · rename_i hf
      rcases hk with hk | hk
      · simp only [hk, if_true, if_neg hf, if_neg (show ¬ (1 : Int) = 3 by omega), if_neg (show ¬ (1 : Int) = 4 by omega), and_self]
      · simp only [hk, if_true, if_neg hf, if_neg (show ¬ (2 : Int) = 1 by omega), if_neg (show ¬ (2 : Int) = 3 by omega), if_neg (show ¬ (2 : Int) = 4 by omega), and_self]
  · split at hc
    · split at hc <;> omega
    · omega
theorem stepMet (hm : metB (psA most zs os n) k = true) : dkA most zs os n (k + 1) = dkA most zs os n k ∧ vlA most zs os k = 0 := by
  have hm' := hm
  simp only [metB, decide_eq_true_eq] at hm'
  obtain ⟨i, hi, hp⟩ := psA_mem.1 hm'.2
  have hin : (k : Int) ∈ dqAt most (olds zs.length) (kindsOf os) i := by
    rw [← hp]
    exact met_in (by show 0 ≤ ptA most zs os i; omega)
  obtain ⟨_, hk, hc⟩ := stood (olds_neg _) (by omega) i hin
  rw [Int.toNat_natCast] at hk hc
  rw [code_same] at hc
  unfold cdA at hc
  unfold vlA dkA
  rw [pzAt]
  have hl : (itA most zs os k).length = (pzAt most zs os k).length := by rw [← pz_snd, List.length_map]
  unfold dqC at hc
  rw [if_pos hk] at hc
  split at hc
  · rename_i hf
    rw [hl] at hf
    unfold dqG dqV
    rcases hk with hk | hk
    · simp only [hk, if_true, if_pos hf, if_neg (show ¬ (1 : Int) = 3 by omega), if_neg (show ¬ (1 : Int) = 4 by omega)]
      rw [List.filter_cons]
      simp [hm]
    · simp only [hk, if_true, if_pos hf, if_neg (show ¬ (2 : Int) = 1 by omega), if_neg (show ¬ (2 : Int) = 3 by omega), if_neg (show ¬ (2 : Int) = 4 by omega)]
      rw [List.filter_append, List.filter_cons]
      simp [hm]
  · omega
theorem stepDo (hp : ptA most zs os k = -1) (hc : cdA most zs os k ≠ 3) (hm : metB (psA most zs os n) k = false) :
    dqL most (dkA most zs os n k) (kindsOf os k) (valOf os k) = dkA most zs os n (k + 1) ∧ dqC most (dkA most zs os n k) (kindsOf os k) = cdA most zs os k ∧ dqV (dkA most zs os n k) (kindsOf os k) = vlA most zs os k := by
  have hle := dkA_le (most := most) (zs := zs) (os := os) (n := n) k
  unfold cdA at hc ⊢
  unfold vlA
  unfold dkA at hle ⊢
  rw [pzAt, ← pz_snd] at *
  unfold ptA at hp
  rw [← pz_fst] at hp
  generalize pzAt most zs os k = s at *
  generalize psA most zs os n = ps at *
  generalize kindsOf os k = kd at *
  generalize valOf os k = v at *
  have ho := metB_old ps
  unfold dqP at hp
  unfold dqC at hc ⊢
  unfold dqG dqV dqL
  by_cases h1 : kd = 1
  · subst h1
    simp only [if_true, true_or, if_neg (show ¬ (1 : Int) = 3 by omega), if_neg (show ¬ (1 : Int) = 4 by omega)] at *
    rw [List.length_map] at hc hle
    have hf : (s.length : Int) < most := by
      refine Classical.byContradiction fun hf => ?_
      rw [if_neg hf] at hc
      exact hc rfl
    have hg : (((s.filter fun e => !metB ps e.1).length : Nat) : Int) < most := by omega
    simp only [List.length_map]
    rw [if_pos hg, if_pos hf, List.filter_cons]
    simp [hm, hf, hg]
  by_cases h2 : kd = 2
  · subst h2
    simp only [if_true, or_true, if_neg (show ¬ (2 : Int) = 1 by omega), if_neg (show ¬ (2 : Int) = 3 by omega), if_neg (show ¬ (2 : Int) = 4 by omega)] at *
    rw [List.length_map] at hc hle
    have hf : (s.length : Int) < most := by
      refine Classical.byContradiction fun hf => ?_
      rw [if_neg hf] at hc
      exact hc rfl
    have hg : (((s.filter fun e => !metB ps e.1).length : Nat) : Int) < most := by omega
    simp only [List.length_map]
    rw [if_pos hg, if_pos hf, List.filter_append, List.filter_cons]
    simp [hm, hf, hg]
  by_cases h3 : kd = 3
  · subst h3
    simp only [if_true, true_or, if_neg (show ¬ (3 : Int) = 1 by omega), if_neg (show ¬ (3 : Int) = 2 by omega), show ¬ ((3 : Int) = 1 ∨ (3 : Int) = 2) by omega, if_false] at *
    cases s with
    | nil => simp
    | cons e l =>
      simp only [List.map_cons, List.headD_cons, List.tail_cons] at *
      rw [List.filter_cons, hp, ho]
      simp
  by_cases h4 : kd = 4
  · subst h4
    simp only [if_true, or_true, if_neg (show ¬ (4 : Int) = 1 by omega), if_neg (show ¬ (4 : Int) = 2 by omega), if_neg (show ¬ (4 : Int) = 3 by omega), show ¬ ((4 : Int) = 1 ∨ (4 : Int) = 2) by omega, if_false] at *
    rcases List.eq_nil_or_concat s with x | ⟨l, e, x⟩
    · rw [x]; simp
    · rw [List.concat_eq_append] at x
      subst x
      simp only [List.map_append, List.map_cons, List.map_nil, List.getLastD_concat, List.dropLast_concat] at *
      rw [List.filter_append, List.filter_cons, hp, ho]
      simp
  · simp only [if_neg h1, if_neg h2, if_neg h3, if_neg h4, show ¬ (kd = 1 ∨ kd = 2) by omega, show ¬ (kd = 3 ∨ kd = 4) by omega, if_false, and_self]
end

end Go.Proofs.YtniefplgijpckaaGreat.D10
