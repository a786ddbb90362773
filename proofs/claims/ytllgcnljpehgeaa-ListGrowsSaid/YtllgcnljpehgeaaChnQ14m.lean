/-
  What records that hang together come to, and what they come to where one cell is another, in plain lists. Conditions: none.
-/
import Derived.Test.YtllgcnljpehgeaaChnPl14m
namespace Go.Proofs.Ytllgcnljpehgeaa.M2
open Go.RowKit

theorem mn_chn (n : Nat) : mn (3 + 5 * n) = n := by unfold mn; omega

section
variable {n k : Nat} {os : List Nat} {zs : List Int}

theorem getD_take {os : List Nat} {t k : Nat} (h : t < k) : (os.take k).getD t 0 = os.getD t 0 := by
  simp only [List.getD_eq_getElem?_getD, List.getElem?_take, if_pos h]

theorem ChK.at_ (h : ChK n os os.length zs) {t : Nat} (ht : t < os.length) : vAt zs os t = ((os.getD t 0 : Nat) : Int) := by
  unfold vAt
  by_cases h0 : t = 0
  · subst h0
    rw [if_pos rfl, h.z1, if_neg (by omega)]
  · rw [if_neg h0, h.nx (t - 1) (by omega), show t - 1 + 1 = t by omega]
theorem ChK.end_ (h : ChK n os os.length zs) (hos : Os n os) : vAt zs os os.length = 0 := by
  unfold vAt
  by_cases h0 : os.length = 0
  · rw [if_pos h0, h.z1, if_pos h0]
  · obtain ⟨j, hj, e⟩ := hos.at (t := os.length - 1) (by omega)
    rw [if_neg h0, e]
    exact h.nz j hj (by rw [← e]; exact hos.new (by omega))

theorem ChK.path (h : ChK n os os.length zs) (hos : Os n os) (hle : os.length ≤ n) : Path zs os false := by
  refine ⟨by rw [h.len, mn_chn]; exact hle, fun t ht => h.at_ ht, fun t ht => ?_, fun t ht => hos.new ht, fun _ => h.end_ hos, by rw [h.end_ hos]; omega, fun e => by cases e⟩
  rw [h.len, mn_chn]
  exact hos.at ht

theorem ChK.act (h : ChK n os os.length zs) (hos : Os n os) {t : Nat} (ht : t < os.length) : zs.getD (os.getD t 0 + 1) 0 = 1 := by
  obtain ⟨j, hj, e⟩ := hos.at ht
  rw [e, h.ac j hj, if_pos (by rw [List.take_length, ← e]; exact getD_mem ht)]
theorem ChK.req (h : ChK n os os.length zs) (hos : Os n os) {t : Nat} (ht : t < os.length) : zs.getD (os.getD t 0) 0 = 0 := by
  obtain ⟨j, hj, e⟩ := hos.at ht
  rw [e, h.rq j hj]
theorem ChK.off (h : ChK n os os.length zs) {j : Nat} (hj : j < n) (hm : 3 + 5 * j ∉ os) : zs.getD (3 + 5 * j + 1) 0 = 0 := by
  rw [h.ac j hj, if_neg (by rw [List.take_length]; exact hm)]

theorem idleK_no {zs : List Int} {os : List Nat} (h : ∀ t, t < os.length → zs.getD (os.getD t 0 + 1) 0 ≠ 0) : idleK zs os os.length = false := by
  unfold idleK
  rw [List.take_length, List.any_eq_false]
  intro a ha
  obtain ⟨t, ht, e⟩ := List.mem_iff_getElem.1 ha
  have := h t ht
  rw [show os.getD t 0 = a by rw [← e]; simp [List.getD, ht]] at this
  simpa using this
theorem idleK_yes {zs : List Int} {os : List Nat} {t : Nat} (ht : t < os.length) (h : zs.getD (os.getD t 0 + 1) 0 = 0) : idleK zs os os.length = true := by
  unfold idleK
  rw [List.take_length, List.any_eq_true]
  exact ⟨_, getD_mem ht, by simpa using h⟩
theorem goneK_no {zs : List Int} {ps : List Nat} {n : Nat} (h : ∀ j, j < n → goneB zs ps j = false) : goneK zs ps n = false := by
  unfold goneK
  rw [List.any_eq_false]
  intro j hj
  simp [h j (by simpa using hj)]

theorem ChK.sound (h : ChK n os os.length zs) (hos : Os n os) : soundV zs os false = 0 := by
  unfold soundV
  rw [if_neg (by simp), if_neg (by rw [idleK_no fun t ht => by rw [h.act hos ht]; omega]; simp), if_neg]
  rw [goneK_no]
  · simp
  intro j hj
  rw [h.len, mn_chn] at hj
  unfold goneB
  by_cases hm : 3 + 5 * j ∈ os
  · simp [hm]
  · rw [h.off hj hm]; simp

theorem ChK.wait (h : ChK n os os.length zs) : waitK zs (mn zs.length) = [] := by
  unfold waitK
  rw [List.map_eq_nil_iff, List.filter_eq_nil_iff]
  intro j hj
  have hj : j < mn zs.length := by simpa using hj
  rw [h.len, mn_chn] at hj
  rw [h.rq j hj]
  simp

/-- A cell that leads nowhere may be any other number. -/
theorem vAt_set {zs : List Int} {ps : List Nat} {i t : Nat} {x : Int} (h1 : i ≠ 1 ∨ t ≠ 0) (h2 : t ≠ 0 → i ≠ ps.getD (t - 1) 0 + 3) : vAt (zs.set i x) ps t = vAt zs ps t := by
  unfold vAt
  by_cases h0 : t = 0
  · rw [if_pos h0, if_pos h0, getD_set, if_neg (by omega)]
  · have := h2 h0
    rw [if_neg h0, if_neg h0, getD_set, if_neg (by omega)]

theorem ChK.pathSet (h : ChK n os os.length zs) (hos : Os n os) (hle : os.length ≤ n) {i : Nat} {x : Int} (h1 : i ≠ 1) (h2 : ∀ j, j < n → i ≠ 3 + 5 * j + 3) : Path (zs.set i x) os false := by
  have hv : ∀ t, t ≤ os.length → vAt (zs.set i x) os t = vAt zs os t := fun t ht => vAt_set (.inl h1) (fun h0 => by
    obtain ⟨j, hj, e⟩ := hos.at (t := t - 1) (by omega)
    rw [e]; exact h2 j hj)
  have P := h.path hos hle
  refine ⟨by rw [List.length_set]; exact P.len, fun t ht => by rw [hv t (by omega)]; exact P.step t ht, fun t ht => by rw [List.length_set]; exact P.isr t ht, P.new, fun _ => by rw [hv _ (Nat.le_refl _)]; exact P.fin rfl, by rw [hv _ (Nat.le_refl _)]; exact P.big, fun e => by cases e⟩

/-- A list that comes round. -/
theorem ChK.round (h : ChK n os os.length zs) (hos : Os n os) (hle : os.length ≤ n) (hn : n ≤ 100) (hk : k < os.length) : Path (zs.set (os.getD (os.length - 1) 0 + 3) ((os.getD k 0 : Nat) : Int)) os true := by
  obtain ⟨r, hr, er⟩ := hos.at (t := os.length - 1) (by omega)
  obtain ⟨q, hq, eq⟩ := hos.at hk
  have P := h.path hos hle
  have hl := h.len
  have hlast : vAt (zs.set (os.getD (os.length - 1) 0 + 3) ((os.getD k 0 : Nat) : Int)) os os.length = ((os.getD k 0 : Nat) : Int) := by
    unfold vAt
    rw [if_neg (by omega), getD_set, if_pos (by omega)]
  refine ⟨by rw [List.length_set]; exact P.len, fun t ht => ?_, fun t ht => by rw [List.length_set]; exact P.isr t ht, P.new, (fun e => by cases e), by rw [hlast]; omega, fun _ => ⟨by rw [hlast]; omega, .inr ⟨q, by rw [List.length_set, hl, mn_chn]; exact hq, by rw [← eq]; exact getD_mem hk, by rw [hlast]; omega⟩⟩⟩
  rw [vAt_set (.inl (by omega)) (fun h0 => by have := hos.ne (s := os.length - 1) (t := t - 1) (by omega) (by omega) (by omega); omega)]
  exact P.step t ht

/-- One that leads to no record. -/
theorem ChK.stray (h : ChK n os os.length zs) (hos : Os n os) (hle : os.length ≤ n) (hn : n ≤ 100) (hk : k < os.length) : Path (zs.set (os.getD k 0 + 3) (((os.getD k 0 : Nat) : Int) + 1)) (os.take (k + 1)) true := by
  obtain ⟨q, hq, eq⟩ := hos.at hk
  have P := h.path hos hle
  have hl := h.len
  have hlen : (os.take (k + 1)).length = k + 1 := by rw [List.length_take]; omega
  have hlast : vAt (zs.set (os.getD k 0 + 3) (((os.getD k 0 : Nat) : Int) + 1)) (os.take (k + 1)) (k + 1) = ((os.getD k 0 : Nat) : Int) + 1 := by
    unfold vAt
    rw [if_neg (by omega), Nat.add_sub_cancel, getD_take (by omega), getD_set, if_pos (by omega)]
  refine ⟨by rw [List.length_set, hlen, hl, mn_chn]; omega, fun t ht => ?_, fun t ht => ?_, fun t ht => ?_, (fun e => by cases e), by rw [hlen, hlast]; omega, fun _ => ⟨by rw [hlen, hlast]; omega, .inl fun j hj => by rw [hlen, hlast]; omega⟩⟩
  · rw [hlen] at ht
    have hv : vAt (zs.set (os.getD k 0 + 3) (((os.getD k 0 : Nat) : Int) + 1)) (os.take (k + 1)) t = vAt zs os t := by
      rw [vAt_set (.inl (by omega)) (fun h0 => by rw [getD_take (by omega)]; have := hos.ne (s := k) (t := t - 1) (by omega) (by omega) (by omega); omega)]
      unfold vAt
      by_cases h0 : t = 0
      · rw [if_pos h0, if_pos h0]
      · rw [if_neg h0, if_neg h0, getD_take (by omega)]
    rw [hv, getD_take (by omega)]
    exact P.step t (by omega)
  · rw [hlen] at ht
    rw [List.length_set, getD_take (by omega)]
    exact P.isr t (by omega)
  · rw [hlen] at ht
    rw [getD_take (by omega), List.take_take, Nat.min_eq_left (by omega)]
    exact P.new t (by omega)

/-- Nobody is on the list. -/
theorem short_path (zs : List Int) (h : zs.getD 1 0 = 0) : Path zs [] false :=
  ⟨Nat.zero_le _, fun t ht => by simp at ht, fun t ht => by simp at ht, fun t ht => by simp at ht, fun _ => h, by show vAt zs [] 0 ≤ _; unfold vAt; rw [if_pos rfl, h]; omega, fun e => by cases e⟩

theorem ChK.short (h : ChK n os os.length zs) (hos : Os n os) (hn : n ≤ 100) (h0 : 0 < os.length) : Path (zs.set 1 0) [] false ∧ soundV (zs.set 1 0) [] false = 31 := by
  have hl := h.len
  refine ⟨short_path _ (by rw [getD_set, if_pos (by omega)]), ?_⟩
  obtain ⟨q, hq, eq⟩ := hos.at h0
  have ha := h.act hos h0
  have hr := h.req hos h0
  rw [eq] at ha hr
  unfold soundV
  rw [if_neg (by simp), if_neg (by simp [idleK]), if_pos]
  refine goneK_yes (k := q) ?_ (by rw [List.length_set, hl, mn_chn]; exact hq)
  unfold goneB
  rw [getD_set, if_neg (by omega), getD_set, if_neg (by omega), ha, hr]
  simp

theorem ChK.closed (h : ChK n os os.length zs) (hos : Os n os) (hn : n ≤ 100) (h0 : 0 < os.length) : Path ((zs.set 1 0).set (os.getD 0 0) (-1)) [] false ∧ soundV ((zs.set 1 0).set (os.getD 0 0) (-1)) [] false = if 1 < os.length then 31 else 0 := by
  have hl := h.len
  obtain ⟨q, hq, eq⟩ := hos.at h0
  refine ⟨short_path _ (by rw [getD_set, if_neg (by omega), getD_set, if_pos (by omega)]), ?_⟩
  unfold soundV
  rw [if_neg (by simp), if_neg (by simp [idleK])]
  by_cases h1 : 1 < os.length
  · obtain ⟨r, hr, er⟩ := hos.at h1
    have ha := h.act hos h1
    have hq2 := h.req hos h1
    have hne := hos.ne (s := 0) (t := 1) h0 h1 (by omega)
    rw [if_pos h1, if_pos]
    refine goneK_yes (k := r) ?_ (by rw [List.length_set, List.length_set, hl, mn_chn]; exact hr)
    rw [er] at ha hq2
    unfold goneB
    rw [getD_set, if_neg (by omega), getD_set, if_neg (by omega), getD_set, if_neg (by omega), getD_set, if_neg (by omega), ha, hq2]
    simp
  · rw [if_neg h1, if_neg]
    rw [goneK_no]
    · simp
    intro j hj
    rw [List.length_set, List.length_set, hl, mn_chn] at hj
    unfold goneB
    by_cases e : j = q
    · subst e
      rw [getD_set (i := os.getD 0 0) (j := 3 + 5 * j), if_pos (by rw [List.length_set]; omega)]
      simp
    · have hm : 3 + 5 * j ∉ os := by
        intro hm
        obtain ⟨t, ht, e2⟩ := List.mem_iff_getElem.1 hm
        have : t = 0 := by omega
        subst this
        have : os.getD 0 0 = 3 + 5 * j := by rw [← e2]; simp [List.getD, h0]
        omega
      rw [getD_set (j := 3 + 5 * j + 1), if_neg (by omega), getD_set (j := 3 + 5 * j + 1), if_neg (by omega), h.off hj hm]
      simp

theorem ChK.idle (h : ChK n os os.length zs) (hos : Os n os) (hle : os.length ≤ n) (hn : n ≤ 100) (hk : k < os.length) : Path (zs.set (os.getD k 0 + 1) 0) os false ∧ soundV (zs.set (os.getD k 0 + 1) 0) os false = 33 := by
  obtain ⟨q, hq, eq⟩ := hos.at hk
  have hl := h.len
  refine ⟨h.pathSet hos hle (by omega) (fun j _ => by omega), ?_⟩
  unfold soundV
  rw [if_neg (by simp), if_pos (idleK_yes hk (by rw [getD_set, if_pos (by omega)]))]
end

end Go.Proofs.Ytllgcnljpehgeaa.M2
