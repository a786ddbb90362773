/-
  Who is stale and who waits where records hang together and one of them waits, in plain lists. Conditions: none.
-/
import Derived.Test.YtllgcnljpehgeaaWith14m
namespace Go.Proofs.Ytllgcnljpehgeaa.M2
open Go.RowKit

section
variable {n k : Nat} {os : List Nat} {zs : List Int} {x age : Int}

theorem ChK.z1at (h : ChK n os os.length zs) (hos : Os n os) {j : Nat} (hj : j < os.length) : 0 ≤ zs.getD (os.getD j 0 + 2) 0 ∧ zs.getD (os.getD j 0 + 2) 0 ≤ 255 := by
  obtain ⟨q, hq, eq⟩ := hos.at hj
  rw [eq]
  exact h.ag q hq

theorem ChK.oldIs (h : ChK n os os.length zs) (hos : Os n os) (hn : n ≤ 100) (hk : k < os.length) (a0 : 0 ≤ age) (a1 : age ≤ 59) {j : Nat} (hj : j < os.length) :
    oldAt (zs.set (os.getD k 0) x) os age j = (decide (age < 50 - zs.getD (os.getD j 0 + 2) 0) && (decide (0 < j) && (decide (j ≠ k) || decide (x = 0)))) := by
  obtain ⟨q, hq, eq⟩ := hos.at hk
  obtain ⟨r, hr, er⟩ := hos.at hj
  have hl := h.len
  have h2 := h.z2
  have ha := h.act hos hj
  have hq0 := h.req hos hj
  have hg := h.z1at hos hj
  have hne : j ≠ k → os.getD k 0 ≠ os.getD j 0 := fun hn => hos.ne hk hj (Ne.symm hn)
  generalize hG : zs.getD (os.getD j 0 + 2) 0 = G at *
  have e0 : (zs.set (os.getD k 0) x).getD (os.getD j 0) 0 = if j = k then x else 0 := by
    rw [getD_set]
    by_cases e : j = k
    · subst e; rw [if_pos ⟨rfl, by omega⟩, if_pos rfl]
    · rw [if_neg (fun hh => hne e hh.1), if_neg e, hq0]
  have e1 : (zs.set (os.getD k 0) x).getD (os.getD j 0 + 1) 0 = 1 := by rw [getD_set, if_neg (by omega), ha]
  have e2 : (zs.set (os.getD k 0) x).getD (os.getD j 0 + 2) 0 = G := by rw [getD_set, if_neg (by omega), hG]
  have e3 : (zs.set (os.getD k 0) x).getD 2 0 = 50 := by rw [getD_set, if_neg (by omega), h2]
  have ew : wrap64 (50 - G) = 50 - G := by rw [← IntWalk.i64_left]; exact IntWalk.i64_in _ (by omega)
  unfold oldAt oldB
  rw [e0, e1, e2, e3, ew]
  rw [show decide (1 ≤ j) = decide (0 < j) from rfl]
  by_cases e : j = k
  · rw [if_pos e]
    by_cases y : x = 0
    · simp [e, y, Bool.and_comm]
    · simp [e, y]
  · rw [if_neg e]
    simp [e, Bool.and_comm]

theorem staleK_mem (hos : Os n os) {ws : List Int} {j : Nat} (hj : j < os.length) : (((os.getD j 0 : Nat) : Int) ∈ staleK ws os age os.length ↔ oldAt ws os age j = true) := by
  unfold staleK
  rw [List.mem_map]
  constructor
  · rintro ⟨i, hi, e⟩
    rw [List.mem_filter, List.mem_range] at hi
    by_cases hij : i = j
    · subst hij; exact hi.2
    · exact absurd (by omega) (hos.ne hi.1 hj hij)
  · intro ho
    exact ⟨j, by rw [List.mem_filter, List.mem_range]; exact ⟨hj, ho⟩, rfl⟩

theorem staleK_lt {ws : List Int} {k : Nat} (hk : 0 < k) : (staleK ws os age k).length < k := by
  obtain ⟨m, rfl⟩ : ∃ m, k = m + 1 := ⟨k - 1, by omega⟩
  clear hk
  induction m with
  | zero => rw [show 0 + 1 = 1 from rfl]; simp [staleK, List.range_succ, oldAt]
  | succ m ih =>
    by_cases ho : oldAt ws os age (m + 1) = true
    · rw [← staleK_yes ho, List.length_append]; simp; omega
    · rw [staleK_no (by simpa using ho)]; omega

theorem ChK.waitSet (h : ChK n os os.length zs) (hos : Os n os) (hn : n ≤ 100) (hk : k < os.length) : waitK (zs.set (os.getD k 0) x) (mn (zs.set (os.getD k 0) x).length) = if 0 < x then [((os.getD k 0 : Nat) : Int)] else [] := by
  obtain ⟨q, hq, eq⟩ := hos.at hk
  have hl := h.len
  rw [List.length_set, hl, mn_chn, eq]
  have key : ∀ t, t ≤ n → waitK (zs.set (3 + 5 * q) x) t = if 0 < x ∧ q < t then [3 + 5 * (q : Int)] else [] := by
    intro t
    induction t with
    | zero => intro _; simp [waitK]
    | succ t ih =>
      intro ht
      have ih := ih (by omega)
      have hr := h.rq t (by omega)
      by_cases e : t = q
      · subst e
        by_cases hx : 0 < x
        · rw [← waitK_yes (by rw [getD_set, if_pos ⟨rfl, by omega⟩]; exact hx), ih, if_neg (by omega), if_pos ⟨hx, by omega⟩]; rfl
        · rw [waitK_no (by rw [getD_set, if_pos ⟨rfl, by omega⟩]; exact hx), ih, if_neg (by omega), if_neg (fun hh => hx hh.1)]
      · rw [waitK_no (by rw [getD_set, if_neg (by omega), hr]; omega), ih]
        by_cases hx : 0 < x ∧ q < t
        · rw [if_pos hx, if_pos ⟨hx.1, by omega⟩]
        · rw [if_neg hx, if_neg (fun hh => hx ⟨hh.1, by omega⟩)]
  rw [key n (Nat.le_refl _)]
  by_cases hx : 0 < x
  · rw [if_pos ⟨hx, hq⟩, if_pos hx]; simp
  · rw [if_neg (fun hh => hx hh.1), if_neg hx]
end

end Go.Proofs.Ytllgcnljpehgeaa.M2
