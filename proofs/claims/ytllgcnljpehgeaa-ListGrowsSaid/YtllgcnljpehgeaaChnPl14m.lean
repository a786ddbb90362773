/-
  Records that hang together (reaperlaw14.Chain), in plain lists. Conditions: none.
-/
import Derived.Test.YtllgcnljpehgeaaAskT14m
import Derived.Test.YtllgcnljpehgeaaAskW14m
import Derived.Test.YtllgcnljpehgeaaMemA14
namespace Go.Proofs.Ytllgcnljpehgeaa.M2
open Go.RowKit

/-- Addresses of the first n records, each at most once. -/
structure Os (n : Nat) (os : List Nat) : Prop where
  isr : ∀ a ∈ os, ∃ j, j < n ∧ a = 3 + 5 * j
  nod : os.Nodup

theorem getD_mem {os : List Nat} {t : Nat} (h : t < os.length) : os.getD t 0 ∈ os := by simp [List.getD, h]
theorem Os.at {n : Nat} {os : List Nat} (h : Os n os) {t : Nat} (ht : t < os.length) : ∃ j, j < n ∧ os.getD t 0 = 3 + 5 * j := h.isr _ (getD_mem ht)
theorem Os.ne {n : Nat} {os : List Nat} (h : Os n os) {s t : Nat} (hs : s < os.length) (ht : t < os.length) (hne : s ≠ t) : os.getD s 0 ≠ os.getD t 0 := by
  intro e
  simp only [List.getD_eq_getElem?_getD, List.getElem?_eq_getElem hs, List.getElem?_eq_getElem ht, Option.getD_some] at e
  exact hne ((List.getElem_inj h.nod).1 e)
theorem Os.new {n : Nat} {os : List Nat} (h : Os n os) {k : Nat} (hk : k < os.length) : os.getD k 0 ∉ os.take k := by
  intro hm
  obtain ⟨t, ht, e⟩ := List.mem_iff_getElem.1 hm
  rw [List.length_take] at ht
  have : os.getD t 0 = os.getD k 0 := by rw [← e]; simp [List.getD, show t < os.length by omega]
  exact h.ne (by omega) hk (by omega) this
theorem Os.take {n : Nat} {os : List Nat} (h : Os n os) (k : Nat) : Os n (os.take k) := ⟨fun a ha => h.isr a (List.mem_of_mem_take ha), h.nod.sublist (List.take_sublist _ _)⟩
/-- One more in the order. -/
theorem order_next {od : List Nat} {k t : Nat} (h : od.Perm ((List.range k).map (fun j => 3 + 5 * j))) : (od.take t ++ [3 + 5 * k] ++ od.drop t).Perm ((List.range (k + 1)).map (fun j => 3 + 5 * j)) := by
  have h1 : (od.take t ++ [3 + 5 * k] ++ od.drop t).Perm ((3 + 5 * k) :: od) := by
    rw [List.append_assoc, List.singleton_append]
    have := List.perm_middle (a := 3 + 5 * k) (l₁ := od.take t) (l₂ := od.drop t)
    rwa [List.take_append_drop] at this
  refine h1.trans ?_
  rw [List.range_succ, List.map_append, List.map_singleton]
  refine (h.cons _).trans ?_
  exact (List.perm_append_singleton _ _).symm
theorem order_len {od : List Nat} {k : Nat} (h : od.Perm ((List.range k).map (fun j => 3 + 5 * j))) : od.length = k := by
  have := h.length_eq
  simpa using this
theorem order_os {od : List Nat} {n : Nat} (h : od.Perm ((List.range n).map (fun j => 3 + 5 * j))) : Os n od := by
  refine ⟨fun a ha => ?_, h.nodup_iff.2 ?_⟩
  · obtain ⟨j, hj, e⟩ := List.mem_map.1 (h.mem_iff.1 ha)
    exact ⟨j, by simpa using hj, e.symm⟩
  · exact List.Pairwise.map _ (fun a b hab => by have : a ≠ b := hab; show 3 + 5 * a ≠ 3 + 5 * b; omega) List.nodup_range

/-- What holds once the first k of os hang together. -/
structure ChK (n : Nat) (os : List Nat) (k : Nat) (zs : List Int) : Prop where
  len : zs.length = 3 + 5 * n
  z2 : zs.getD 2 0 = 50
  z1 : zs.getD 1 0 = if k = 0 then 0 else ((os.getD 0 0 : Nat) : Int)
  rq : ∀ j, j < n → zs.getD (3 + 5 * j) 0 = 0
  ac : ∀ j, j < n → zs.getD (3 + 5 * j + 1) 0 = if 3 + 5 * j ∈ os.take k then 1 else 0
  ag : ∀ j, j < n → 0 ≤ zs.getD (3 + 5 * j + 2) 0 ∧ zs.getD (3 + 5 * j + 2) 0 ≤ 255
  nx : ∀ t, t + 1 < k → zs.getD (os.getD t 0 + 3) 0 = ((os.getD (t + 1) 0 : Nat) : Int)
  nz : ∀ j, j < n → 3 + 5 * j ∉ os.take (k - 1) → zs.getD (3 + 5 * j + 3) 0 = 0
  big : ∀ z ∈ zs, z ≤ 1000

theorem big_set {zs : List Int} {a : Nat} {x : Int} (h : ∀ z ∈ zs, z ≤ 1000) (hx : x ≤ 1000) : ∀ z ∈ zs.set a x, z ≤ 1000 := by
  intro z hz
  rcases List.mem_or_eq_of_mem_set hz with hz | rfl
  · exact h z hz
  · exact hx

theorem ChK.start (n : Nat) (os : List Nat) : ChK n os 0 ((List.replicate (3 + 5 * n) 0).set 2 50) := by
  have hr : ∀ i, (List.replicate (3 + 5 * n) (0 : Int)).getD i 0 = 0 := by
    intro i
    by_cases hi : i < 3 + 5 * n
    · simp [List.getD, hi]
    · simp [List.getD, Nat.le_of_not_lt hi]
  refine ⟨by simp, ?_, ?_, fun j _ => ?_, fun j _ => ?_, fun j _ => ?_, fun t ht => by omega, fun j _ _ => ?_, big_set (fun z hz => by have := (List.mem_replicate.1 hz).2; omega) (by omega)⟩
  · rw [getD_set, if_pos (by simp; omega)]
  · rw [getD_set, if_neg (by omega), hr]; rfl
  · rw [getD_set, if_neg (by omega), hr]
  · rw [getD_set, if_neg (by omega), hr]; simp
  · rw [getD_set, if_neg (by omega), hr]; omega
  · rw [getD_set, if_neg (by omega), hr]

theorem ChK.age {n : Nat} {os : List Nat} {k q : Nat} {zs : List Int} {g : Int} (h : ChK n os k zs) (hn : n ≤ 100) (hos : Os n os) (hk : k ≤ os.length) (hq : q < n) (g0 : 0 ≤ g) (g1 : g ≤ 255) : ChK n os k (zs.set (3 + 5 * q + 2) g) := by
  refine ⟨by rw [List.length_set]; exact h.len, ?_, ?_, fun j hj => ?_, fun j hj => ?_, fun j hj => ?_, fun t ht => ?_, fun j hj hm => ?_, big_set h.big (by omega)⟩
  · rw [getD_set, if_neg (by omega)]; exact h.z2
  · rw [getD_set, if_neg (by omega)]; exact h.z1
  · rw [getD_set, if_neg (by omega)]; exact h.rq j hj
  · rw [getD_set, if_neg (by omega)]; exact h.ac j hj
  · rw [getD_set]
    split
    · omega
    · exact h.ag j hj
  · obtain ⟨j, _, e⟩ := hos.at (t := t) (by omega)
    rw [getD_set, if_neg (by omega)]; exact h.nx t ht
  · rw [getD_set, if_neg (by omega)]; exact h.nz j hj hm

/-- The next one is hung on behind the others. -/
def hang (os : List Nat) (k : Nat) (zs : List Int) : List Int := if k = 0 then zs.set 1 ((os.getD 0 0 : Nat) : Int) else zs.set (os.getD (k - 1) 0 + 3) ((os.getD k 0 : Nat) : Int)
theorem hang_len (os : List Nat) (k : Nat) (zs : List Int) : (hang os k zs).length = zs.length := by unfold hang; split <;> simp

theorem ChK.go {n : Nat} {os : List Nat} {k : Nat} {zs : List Int} (h : ChK n os k zs) (hn : n ≤ 100) (hos : Os n os) (hk : k < os.length) : ChK n os (k + 1) ((hang os k zs).set (os.getD k 0 + 1) 1) := by
  obtain ⟨q, hq, eq⟩ := hos.at hk
  have hl := h.len
  have hnew := hos.new hk
  have hL : (hang os k zs).length = 3 + 5 * n := by rw [hang_len, hl]
  -- a cell that is none of the two
  have hh : ∀ i, i ≠ 1 → (∀ j, j < n → i ≠ 3 + 5 * j + 3) → (hang os k zs).getD i 0 = zs.getD i 0 := by
    intro i h1 h2
    unfold hang
    split
    · rw [getD_set, if_neg (by omega)]
    · obtain ⟨r, hr, er⟩ := hos.at (t := k - 1) (by omega)
      have := h2 r hr
      rw [getD_set, if_neg (by omega)]
  have hother : ∀ i, i ≠ 1 → (∀ j, j < n → i ≠ 3 + 5 * j + 3) → i ≠ 3 + 5 * q + 1 → ((hang os k zs).set (os.getD k 0 + 1) 1).getD i 0 = zs.getD i 0 := by
    intro i h1 h2 h3
    rw [getD_set, if_neg (by omega), hh i h1 h2]
  refine ⟨by rw [List.length_set, hL], ?_, ?_, fun j hj => ?_, fun j hj => ?_, fun j hj => ?_, fun t ht => ?_, fun j hj hm => ?_, ?_⟩
  · rw [hother 2 (by omega) (fun j _ => by omega) (by omega)]; exact h.z2
  · rw [getD_set, if_neg (by omega), if_neg (by omega)]
    unfold hang
    split
    · rw [getD_set, if_pos (by omega)]
    · rename_i hk0
      obtain ⟨r, hr, er⟩ := hos.at (t := k - 1) (by omega)
      rw [getD_set, if_neg (by omega), h.z1, if_neg hk0]
  · rw [hother _ (by omega) (fun j _ => by omega) (by omega)]; exact h.rq j hj
  · by_cases e : j = q
    · subst e
      rw [getD_set, if_pos (by omega), if_pos (by rw [take_next hk, eq]; simp)]
    · rw [hother _ (by omega) (fun j _ => by omega) (by omega), h.ac j hj]
      have : (3 + 5 * j ∈ os.take (k + 1)) ↔ 3 + 5 * j ∈ os.take k := by
        rw [take_next hk, List.mem_append, List.mem_singleton]
        constructor
        · rintro (h | h)
          · exact h
          · omega
        · exact .inl
      simp only [this]
  · rw [hother _ (by omega) (fun j _ => by omega) (by omega)]; exact h.ag j hj
  · obtain ⟨r, hr, er⟩ := hos.at (t := t) (by omega)
    rw [getD_set, if_neg (by omega)]
    unfold hang
    split
    · omega
    · obtain ⟨r2, hr2, er2⟩ := hos.at (t := k - 1) (by omega)
      by_cases e : t = k - 1
      · subst e
        rw [getD_set, if_pos (by omega), show k - 1 + 1 = k by omega]
      · have := hos.ne (s := t) (t := k - 1) (by omega) (by omega) e
        rw [getD_set, if_neg (by omega)]
        exact h.nx t (by omega)
  · rw [getD_set, if_neg (by omega)]
    rw [Nat.add_sub_cancel] at hm
    unfold hang
    split
    · rename_i hk0
      rw [getD_set, if_neg (by omega)]
      exact h.nz j hj (by rw [hk0]; simp)
    · obtain ⟨r, hr, er⟩ := hos.at (t := k - 1) (by omega)
      have hne : 3 + 5 * j ≠ os.getD (k - 1) 0 := by
        intro e
        apply hm
        rw [e]
        have ht := take_next (ps := os) (k := k - 1) (by omega)
        rw [show k - 1 + 1 = k by omega] at ht
        rw [ht]; simp
      rw [getD_set, if_neg (by omega)]
      refine h.nz j hj (fun hm2 => hm ?_)
      have ht := take_next (ps := os) (k := k - 1) (by omega)
      rw [show k - 1 + 1 = k by omega] at ht
      rw [ht, List.mem_append]
      exact .inl hm2
  · refine big_set ?_ (by omega)
    unfold hang
    split
    · obtain ⟨r, hr, er⟩ := hos.at (t := 0) (by omega)
      exact big_set h.big (by omega)
    · exact big_set h.big (by omega)

end Go.Proofs.Ytllgcnljpehgeaa.M2
