/-
  Records that hang together: one more is put ahead of them, one is taken out, in plain lists. Conditions: none.
-/
import Derived.Test.YtllgcnljpehgeaaWith14m
namespace Go.Proofs.Ytllgcnljpehgeaa.M2
open Go.RowKit

theorem few : ∀ (n : Nat) (ps : List Nat), ps.Nodup → (∀ a ∈ ps, ∃ j, j < n ∧ a = 3 + 5 * j) → ps.length ≤ n := by
  intro n
  induction n with
  | zero =>
    intro ps _ h
    cases ps with
    | nil => exact Nat.le_refl _
    | cons a ps => obtain ⟨j, hj, _⟩ := h a (by simp); omega
  | succ n ih =>
    intro ps hn h
    have h1 := ih (ps.erase (3 + 5 * n)) (hn.erase _) (fun a ha => by
      have hne := (hn.mem_erase_iff.1 ha).1
      obtain ⟨j, hj, e⟩ := h a (hn.mem_erase_iff.1 ha).2
      refine ⟨j, ?_, e⟩
      by_cases hjn : j = n
      · subst hjn; exact absurd e hne
      · omega)
    by_cases hm : 3 + 5 * n ∈ ps
    · rw [List.length_erase_of_mem hm] at h1; omega
    · rw [List.erase_of_not_mem hm] at h1; omega
theorem Os.le {n : Nat} {ps : List Nat} (h : Os n ps) : ps.length ≤ n := few n ps h.nod h.isr

/-- Records that hang together; the others are not active or leave. -/
structure Ok (n : Nat) (ps : List Nat) (zs : List Int) : Prop where
  len : zs.length = 3 + 5 * n
  os : Os n ps
  st : ∀ t, t ≤ ps.length → vAt zs ps t = ((ps.getD t 0 : Nat) : Int)
  ac : ∀ t, t < ps.length → zs.getD (ps.getD t 0 + 1) 0 ≠ 0
  off : ∀ j, j < n → 3 + 5 * j ∉ ps → zs.getD (3 + 5 * j + 1) 0 = 0 ∨ zs.getD (3 + 5 * j) 0 = -1

section
variable {n : Nat} {ps : List Nat} {zs : List Int}

theorem getD_end (ps : List Nat) : ps.getD ps.length 0 = 0 := by simp [List.getD]

theorem Ok.start (h : ChK n ps ps.length zs) (hos : Os n ps) : Ok n ps zs := by
  refine ⟨h.len, hos, fun t ht => ?_, fun t ht => by rw [h.act hos ht]; omega, fun j hj hm => .inl (h.off hj hm)⟩
  by_cases e : t = ps.length
  · subst e
    rw [h.end_ hos, getD_end]
    rfl
  · exact h.at_ (by omega)

theorem Ok.path (h : Ok n ps zs) : Path zs ps false := by
  have e : vAt zs ps ps.length = 0 := by rw [h.st _ (Nat.le_refl _), getD_end]; rfl
  refine ⟨by rw [h.len, mn_chn]; exact h.os.le, fun t ht => h.st t (by omega), fun t ht => by rw [h.len, mn_chn]; exact h.os.at ht, fun t ht => h.os.new ht, fun _ => e, by rw [e]; omega, fun e => by cases e⟩

theorem Ok.sound (h : Ok n ps zs) : soundV zs ps false = 0 := by
  unfold soundV
  rw [if_neg (by simp), if_neg (by rw [idleK_no h.ac]; simp), if_neg]
  rw [goneK_no]
  · simp
  intro j hj
  rw [h.len, mn_chn] at hj
  unfold goneB
  by_cases hm : 3 + 5 * j ∈ ps
  · simp [hm]
  · rcases h.off j hj hm with e | e <;> rw [e] <;> simp

/-- One more ahead of them. -/
def pushZ (zs : List Int) (q : Nat) : List Int := ((zs.set (3 + 5 * q + 3) (zs.getD 1 0)).set (3 + 5 * q + 1) 2).set 1 (3 + 5 * (q : Int))

theorem Ok.push (h : Ok n ps zs) {q : Nat} (hq : q < n) (hm : 3 + 5 * q ∉ ps) : Ok n ((3 + 5 * q) :: ps) (pushZ zs q) := by
  have hl := h.len
  have g1 : ∀ i, (pushZ zs q).getD i 0 = if i = 1 then 3 + 5 * (q : Int) else if i = 3 + 5 * q + 1 then 2 else if i = 3 + 5 * q + 3 then zs.getD 1 0 else zs.getD i 0 := by
    intro i
    unfold pushZ
    by_cases e1 : i = 1
    · subst e1; rw [if_pos rfl, getD_set, if_pos ⟨rfl, by simp; omega⟩]
    · rw [if_neg e1, getD_set, if_neg (by omega)]
      by_cases e2 : i = 3 + 5 * q + 1
      · subst e2; rw [if_pos rfl, getD_set, if_pos ⟨rfl, by simp; omega⟩]
      · rw [if_neg e2, getD_set, if_neg (by omega)]
        by_cases e3 : i = 3 + 5 * q + 3
        · subst e3; rw [if_pos rfl, getD_set, if_pos ⟨rfl, by omega⟩]
        · rw [if_neg e3, getD_set, if_neg (by omega)]
  have ne : ∀ t, t < ps.length → ∃ j, j < n ∧ ps.getD t 0 = 3 + 5 * j ∧ j ≠ q := fun t ht => by
    obtain ⟨j, hj, e⟩ := h.os.at ht
    refine ⟨j, hj, e, ?_⟩
    rintro rfl
    exact hm (e ▸ getD_mem ht)
  refine ⟨by simp [pushZ, hl], ⟨fun a ha => ?_, List.nodup_cons.2 ⟨hm, h.os.nod⟩⟩, fun t ht => ?_, fun t ht => ?_, fun j hj hn => ?_⟩
  · rcases List.mem_cons.1 ha with rfl | ha
    · exact ⟨q, hq, rfl⟩
    · exact h.os.isr a ha
  · unfold vAt
    cases t with
    | zero => rw [if_pos rfl, g1, if_pos rfl]; simp
    | succ s =>
      rw [if_neg (by omega), Nat.add_sub_cancel]
      have ht : s ≤ ps.length := by simpa using ht
      have hst := h.st s ht
      unfold vAt at hst
      cases s with
      | zero =>
        rw [show ((3 + 5 * q) :: ps).getD 0 0 = 3 + 5 * q by simp, g1, if_neg (by omega), if_neg (by omega), if_pos rfl]
        rw [if_pos rfl] at hst
        rw [hst]; simp
      | succ r =>
        rw [if_neg (by omega), Nat.add_sub_cancel] at hst
        obtain ⟨j, hj, e, hjq⟩ := ne r (by omega)
        rw [show ((3 + 5 * q) :: ps).getD (r + 1) 0 = ps.getD r 0 by simp, g1, if_neg (by omega), if_neg (by omega), if_neg (by omega), hst]
        simp
  · cases t with
    | zero => rw [show ((3 + 5 * q) :: ps).getD 0 0 = 3 + 5 * q by simp, g1, if_neg (by omega), if_pos rfl]; omega
    | succ s =>
      have ht : s < ps.length := by simpa using ht
      obtain ⟨j, hj, e, hjq⟩ := ne s ht
      rw [show ((3 + 5 * q) :: ps).getD (s + 1) 0 = ps.getD s 0 by simp, g1, if_neg (by omega), if_neg (by omega), if_neg (by omega)]
      exact h.ac s ht
  · have hjq : j ≠ q := by rintro rfl; exact hn (by simp)
    have hjp : 3 + 5 * j ∉ ps := fun hh => hn (by simp [hh])
    rw [g1, if_neg (by omega), if_neg (by omega), if_neg (by omega), g1, if_neg (by omega), if_neg (by omega), if_neg (by omega)]
    exact h.off j hj hjp

/-- One taken out. -/
def cutP (ps : List Nat) (t : Nat) : List Nat := ps.take t ++ ps.drop (t + 1)
theorem cutP_len {t : Nat} (ht : t < ps.length) : (cutP ps t).length = ps.length - 1 := by unfold cutP; rw [List.length_append, List.length_take, List.length_drop]; omega
theorem cutP_at {t : Nat} (ht : t < ps.length) (s : Nat) : (cutP ps t).getD s 0 = if s < t then ps.getD s 0 else ps.getD (s + 1) 0 := by
  unfold cutP
  by_cases hs : s < t
  · rw [if_pos hs]
    simp only [List.getD_eq_getElem?_getD]
    rw [List.getElem?_append_left (by rw [List.length_take]; omega), List.getElem?_take, if_pos hs]
  · rw [if_neg hs]
    simp only [List.getD_eq_getElem?_getD]
    rw [List.getElem?_append_right (by rw [List.length_take]; omega), List.getElem?_drop, List.length_take, show t + 1 + (s - min t ps.length) = s + 1 by omega]
theorem cutP_sub (ps : List Nat) (t : Nat) : (cutP ps t).Sublist ps := by
  unfold cutP
  rw [← List.eraseIdx_eq_take_drop_succ]
  exact List.eraseIdx_sublist _ _
theorem cutP_mem {t a : Nat} (ht : t < ps.length) (h : a ∈ ps) : a = ps.getD t 0 ∨ a ∈ cutP ps t := by
  obtain ⟨s, hs, e⟩ := List.mem_iff_getElem.1 h
  have e2 : ps.getD s 0 = a := by rw [← e]; simp [List.getD, hs]
  by_cases hst : s = t
  · subst hst; exact .inl e2.symm
  · right
    by_cases hlt : s < t
    · have h1 := cutP_at ht s
      rw [if_pos hlt, e2] at h1
      rw [← h1]
      exact getD_mem (by rw [cutP_len ht]; omega)
    · have h1 := cutP_at ht (s - 1)
      rw [if_neg (by omega), show s - 1 + 1 = s by omega, e2] at h1
      rw [← h1]
      exact getD_mem (by rw [cutP_len ht]; omega)

def cutZ (zs : List Int) (ps : List Nat) (t : Nat) : List Int := (zs.set (ps.getD t 0) (-1)).set (ps.getD (t - 1) 0 + 3) (zs.getD (ps.getD t 0 + 3) 0)

theorem Ok.cut (h : Ok n ps zs) {t : Nat} (h1 : 1 ≤ t) (ht : t < ps.length) : Ok n (cutP ps t) (cutZ zs ps t) ∧ ps.getD t 0 ∉ cutP ps t := by
  have hl := h.len
  obtain ⟨q, hq, eq⟩ := h.os.at ht
  obtain ⟨r, hr, er⟩ := h.os.at (t := t - 1) (by omega)
  have hqr := h.os.ne (s := t) (t := t - 1) ht (by omega) (by omega)
  have g1 : ∀ i, (cutZ zs ps t).getD i 0 = if i = 3 + 5 * r + 3 then zs.getD (3 + 5 * q + 3) 0 else if i = 3 + 5 * q then -1 else zs.getD i 0 := by
    intro i
    unfold cutZ
    rw [eq, er]
    by_cases e1 : i = 3 + 5 * r + 3
    · subst e1; rw [if_pos rfl, getD_set, if_pos ⟨rfl, by simp; omega⟩]
    · rw [if_neg e1, getD_set, if_neg (by omega)]
      by_cases e2 : i = 3 + 5 * q
      · subst e2; rw [if_pos rfl, getD_set, if_pos ⟨rfl, by omega⟩]
      · rw [if_neg e2, getD_set, if_neg (by omega)]
  have hlen := cutP_len ht
  have hnot : ps.getD t 0 ∉ cutP ps t := by
    intro hm
    obtain ⟨s, hs, e⟩ := List.mem_iff_getElem.1 hm
    have e2 : (cutP ps t).getD s 0 = ps.getD t 0 := by rw [← e]; simp [List.getD, hs]
    rw [cutP_at ht] at e2
    split at e2
    · exact h.os.ne (s := s) (t := t) (by omega) ht (by omega) e2
    · exact h.os.ne (s := s + 1) (t := t) (by omega) ht (by omega) e2
  refine ⟨⟨by simp [cutZ, hl], ⟨fun a ha => h.os.isr a ((cutP_sub ps t).mem ha), (cutP_sub ps t).nodup h.os.nod⟩, fun s hs => ?_, fun s hs => ?_, fun j hj hn => ?_⟩, hnot⟩
  · rw [hlen] at hs
    unfold vAt
    cases s with
    | zero =>
      have h0 := h.st 0 (by omega)
      unfold vAt at h0
      rw [if_pos rfl] at h0
      rw [if_pos rfl, g1, if_neg (by omega), if_neg (by omega), h0, cutP_at ht, if_pos (by omega)]
    | succ s =>
      rw [if_neg (by omega), Nat.add_sub_cancel, cutP_at ht s, cutP_at ht (s + 1)]
      by_cases c1 : s < t
      · rw [if_pos c1]
        by_cases c2 : s + 1 < t
        · rw [if_pos c2]
          obtain ⟨j, hj, e⟩ := h.os.at (t := s) (by omega)
          have hne := h.os.ne (s := s) (t := t - 1) (by omega) (by omega) (by omega)
          have h0 := h.st (s + 1) (by omega)
          unfold vAt at h0
          rw [if_neg (by omega), Nat.add_sub_cancel] at h0
          rw [e, g1, if_neg (by omega), if_neg (by omega), ← e, h0]
        · rw [if_neg c2]
          have hs1 : s = t - 1 := by omega
          have h0 := h.st (t + 1) (by omega)
          unfold vAt at h0
          rw [if_neg (by omega), Nat.add_sub_cancel, eq] at h0
          rw [hs1, er, g1, if_pos rfl, h0, show t - 1 + 1 + 1 = t + 1 by omega]
      · rw [if_neg c1, if_neg (by omega)]
        obtain ⟨j, hj, e⟩ := h.os.at (t := s + 1) (by omega)
        have hne := h.os.ne (s := s + 1) (t := t - 1) (by omega) (by omega) (by omega)
        have h0 := h.st (s + 1 + 1) (by omega)
        unfold vAt at h0
        rw [if_neg (by omega), Nat.add_sub_cancel] at h0
        rw [e, g1, if_neg (by omega), if_neg (by omega), ← e, h0]
  · rw [hlen] at hs
    rw [cutP_at ht s]
    split
    · obtain ⟨j, hj, e⟩ := h.os.at (t := s) (by omega)
      rw [g1, if_neg (by omega), if_neg (by omega)]
      exact h.ac s (by omega)
    · obtain ⟨j, hj, e⟩ := h.os.at (t := s + 1) (by omega)
      rw [g1, if_neg (by omega), if_neg (by omega)]
      exact h.ac (s + 1) (by omega)
  · by_cases e : j = q
    · subst e
      right
      rw [g1, if_neg (by omega), if_pos rfl]
    · have hjp : 3 + 5 * j ∉ ps := fun hh => by
        rcases cutP_mem ht hh with h2 | h2
        · omega
        · exact hn h2
      rw [g1, if_neg (by omega), if_neg (by omega), g1, if_neg (by omega), if_neg (by omega)]
      exact h.off j hj hjp

theorem Ok.zero (h : Ok n ps zs) {q : Nat} (hq : q < n) (hm : 3 + 5 * q ∉ ps) : Ok n ps (zs.set (3 + 5 * q + 1) 0) := by
  have hl := h.len
  refine ⟨by rw [List.length_set]; exact hl, h.os, fun t ht => ?_, fun t ht => ?_, fun j hj hn => ?_⟩
  · rw [vAt_set (.inl (by omega)) (fun h0 => by obtain ⟨j, hj, e⟩ := h.os.at (t := t - 1) (by omega); omega)]
    exact h.st t ht
  · obtain ⟨j, hj, e⟩ := h.os.at ht
    have : j ≠ q := by rintro rfl; exact hm (e ▸ getD_mem ht)
    rw [getD_set, if_neg (by omega)]
    exact h.ac t ht
  · by_cases e : j = q
    · subst e
      left
      rw [getD_set, if_pos ⟨rfl, by omega⟩]
    · rw [getD_set, if_neg (by omega), getD_set, if_neg (by omega)]
      exact h.off j hj hn
end

end Go.Proofs.Ytllgcnljpehgeaa.M2
