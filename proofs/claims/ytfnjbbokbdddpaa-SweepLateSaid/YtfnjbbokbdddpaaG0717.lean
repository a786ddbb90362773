/-
  Records that hang together: one more is put ahead of them, one is taken out, in plain lists. Conditions: none. Who is stale and who waits where records hang together and one of them waits, in plain lists. Conditions: none. What a sweep makes of records that hang together, in plain numbers: who is idle, and older than may be, goes; all others stay, in order. Conditions: at most a hundred records. reaperlaw17.all: a thread sweeps until it is done, or for two hundred steps. Conditions: a memory as Mem1 says; steps below half a million. A memory that is filled number by number beside the document's one (reaperlaw13.Memory), the place of its list told. Conditions: at most 200 numbers.
-/
import Derived.Test.YtfnjbbokbdddpaaG0617
import Derived.Test.YtfnjbbokbdddpaaG0317
import Derived.Test.YtfnjbbokbdddpaaG0417
import Derived.Deep.Cut
namespace Go.Proofs.Ytfnjbbokbdddpaa.M2
open Go.RowKit

theorem few : ∀ (n : Nat) (ps : List Nat), ps.Nodup → (∀ a ∈ ps, ∃ j, j < n ∧ a = 3 + 5 * j) → ps.length ≤ n := by
  intro n
  induction n with
  | zero =>
    intro ps _ h
    cases ps with
    | nil => exact Nat.le_refl _
    | cons a ps => obtain ⟨j, hj, _⟩ := h a (by simp); omega
  | succ n ih =>
    intro ps hn h
    have h1 := ih (ps.erase (3 + 5 * n)) (hn.erase _) (fun a ha => by
      have hne := (hn.mem_erase_iff.1 ha).1
      obtain ⟨j, hj, e⟩ := h a (hn.mem_erase_iff.1 ha).2
      refine ⟨j, ?_, e⟩
      by_cases hjn : j = n
      · subst hjn; exact absurd e hne
      · omega)
    by_cases hm : 3 + 5 * n ∈ ps
    · rw [List.length_erase_of_mem hm] at h1; omega
    · rw [List.erase_of_not_mem hm] at h1; omega
theorem Os.le {n : Nat} {ps : List Nat} (h : Os n ps) : ps.length ≤ n := few n ps h.nod h.isr

structure Ok (n : Nat) (ps : List Nat) (zs : List Int) : Prop where
  len : zs.length = 3 + 5 * n
  os : Os n ps
  st : ∀ t, t ≤ ps.length → vAt zs ps t = ((ps.getD t 0 : Nat) : Int)
  ac : ∀ t, t < ps.length → zs.getD (ps.getD t 0 + 1) 0 ≠ 0
  off : ∀ j, j < n → 3 + 5 * j ∉ ps → zs.getD (3 + 5 * j + 1) 0 = 0 ∨ zs.getD (3 + 5 * j) 0 = -1

section
variable {n : Nat} {ps : List Nat} {zs : List Int}

theorem getD_end (ps : List Nat) : ps.getD ps.length 0 = 0 := by simp [List.getD]

theorem Ok.start (h : ChK n ps ps.length zs) (hos : Os n ps) : Ok n ps zs := by
  refine ⟨h.len, hos, fun t ht => ?_, fun t ht => by rw [h.act hos ht]; omega, fun j hj hm => .inl (h.off hj hm)⟩
  by_cases e : t = ps.length
  · subst e
    rw [h.end_ hos, getD_end]
    rfl
  · exact h.at_ (by omega)

theorem Ok.path (h : Ok n ps zs) : Path zs ps false := by
  have e : vAt zs ps ps.length = 0 := by rw [h.st _ (Nat.le_refl _), getD_end]; rfl
  refine ⟨by rw [h.len, mn_chn]; exact h.os.le, fun t ht => h.st t (by omega), fun t ht => by rw [h.len, mn_chn]; exact h.os.at ht, fun t ht => h.os.new ht, fun _ => e, by rw [e]; omega, fun e => by cases e⟩

theorem Ok.sound (h : Ok n ps zs) : soundV zs ps false = 0 := by
  unfold soundV
  rw [if_neg (by simp), if_neg (by rw [idleK_no h.ac]; simp), if_neg]
  rw [goneK_no]
  · simp
  intro j hj
  rw [h.len, mn_chn] at hj
  unfold goneB
  by_cases hm : 3 + 5 * j ∈ ps
  · simp [hm]
  · rcases h.off j hj hm with e | e <;> rw [e] <;> simp

def cutP (ps : List Nat) (t : Nat) : List Nat := ps.take t ++ ps.drop (t + 1)
theorem cutP_len {t : Nat} (ht : t < ps.length) : (cutP ps t).length = ps.length - 1 := by unfold cutP; rw [List.length_append, List.length_take, List.length_drop]; omega
theorem cutP_at {t : Nat} (ht : t < ps.length) (s : Nat) : (cutP ps t).getD s 0 = if s < t then ps.getD s 0 else ps.getD (s + 1) 0 := by
  unfold cutP
  by_cases hs : s < t
  · rw [if_pos hs]
    simp only [List.getD_eq_getElem?_getD]
    rw [List.getElem?_append_left (by rw [List.length_take]; omega), List.getElem?_take, if_pos hs]
  · rw [if_neg hs]
    simp only [List.getD_eq_getElem?_getD]
    rw [List.getElem?_append_right (by rw [List.length_take]; omega), List.getElem?_drop, List.length_take, show t + 1 + (s - min t ps.length) = s + 1 by omega]
theorem cutP_sub (ps : List Nat) (t : Nat) : (cutP ps t).Sublist ps := by
  unfold cutP
  rw [← List.eraseIdx_eq_take_drop_succ]
  exact List.eraseIdx_sublist _ _
theorem cutP_mem {t a : Nat} (ht : t < ps.length) (h : a ∈ ps) : a = ps.getD t 0 ∨ a ∈ cutP ps t := by
  obtain ⟨s, hs, e⟩ := List.mem_iff_getElem.1 h
  have e2 : ps.getD s 0 = a := by rw [← e]; simp [List.getD, hs]
  by_cases hst : s = t
  · subst hst; exact .inl e2.symm
  · right
    by_cases hlt : s < t
    · have h1 := cutP_at ht s
      rw [if_pos hlt, e2] at h1
      rw [← h1]
      exact getD_mem (by rw [cutP_len ht]; omega)
    · have h1 := cutP_at ht (s - 1)
      rw [if_neg (by omega), show s - 1 + 1 = s by omega, e2] at h1
      rw [← h1]
      exact getD_mem (by rw [cutP_len ht]; omega)

def cutZ (zs : List Int) (ps : List Nat) (t : Nat) : List Int := (zs.set (ps.getD t 0) (-1)).set (ps.getD (t - 1) 0 + 3) (zs.getD (ps.getD t 0 + 3) 0)

theorem Ok.cut (h : Ok n ps zs) {t : Nat} (h1 : 1 ≤ t) (ht : t < ps.length) : Ok n (cutP ps t) (cutZ zs ps t) ∧ ps.getD t 0 ∉ cutP ps t := by
  have hl := h.len
  obtain ⟨q, hq, eq⟩ := h.os.at ht
  obtain ⟨r, hr, er⟩ := h.os.at (t := t - 1) (by omega)
  have hqr := h.os.ne (s := t) (t := t - 1) ht (by omega) (by omega)
  have g1 : ∀ i, (cutZ zs ps t).getD i 0 = if i = 3 + 5 * r + 3 then zs.getD (3 + 5 * q + 3) 0 else if i = 3 + 5 * q then -1 else zs.getD i 0 := by
    intro i
    unfold cutZ
    rw [eq, er]
    by_cases e1 : i = 3 + 5 * r + 3
    · subst e1; rw [if_pos rfl, getD_set, if_pos ⟨rfl, by simp; omega⟩]
    · rw [if_neg e1, getD_set, if_neg (by omega)]
      by_cases e2 : i = 3 + 5 * q
      · subst e2; rw [if_pos rfl, getD_set, if_pos ⟨rfl, by omega⟩]
      · rw [if_neg e2, getD_set, if_neg (by omega)]
  have hlen := cutP_len ht
  have hnot : ps.getD t 0 ∉ cutP ps t := by
    intro hm
    obtain ⟨s, hs, e⟩ := List.mem_iff_getElem.1 hm
    have e2 : (cutP ps t).getD s 0 = ps.getD t 0 := by rw [← e]; simp [List.getD, hs]
    rw [cutP_at ht] at e2
    split at e2
    · exact h.os.ne (s := s) (t := t) (by omega) ht (by omega) e2
    · exact h.os.ne (s := s + 1) (t := t) (by omega) ht (by omega) e2
  refine ⟨⟨by simp [cutZ, hl], ⟨fun a ha => h.os.isr a ((cutP_sub ps t).mem ha), (cutP_sub ps t).nodup h.os.nod⟩, fun s hs => ?_, fun s hs => ?_, fun j hj hn => ?_⟩, hnot⟩
  · rw [hlen] at hs
    unfold vAt
    cases s with
    | zero =>
      have h0 := h.st 0 (by omega)
      unfold vAt at h0
      rw [if_pos rfl] at h0
      rw [if_pos rfl, g1, if_neg (by omega), if_neg (by omega), h0, cutP_at ht, if_pos (by omega)]
    | succ s =>
      rw [if_neg (by omega), Nat.add_sub_cancel, cutP_at ht s, cutP_at ht (s + 1)]
      by_cases c1 : s < t
      · rw [if_pos c1]
        by_cases c2 : s + 1 < t
        · rw [if_pos c2]
          obtain ⟨j, hj, e⟩ := h.os.at (t := s) (by omega)
          have hne := h.os.ne (s := s) (t := t - 1) (by omega) (by omega) (by omega)
          have h0 := h.st (s + 1) (by omega)
          unfold vAt at h0
          rw [if_neg (by omega), Nat.add_sub_cancel] at h0
          rw [e, g1, if_neg (by omega), if_neg (by omega), ← e, h0]
        · rw [if_neg c2]
          have hs1 : s = t - 1 := by omega
          have h0 := h.st (t + 1) (by omega)
          unfold vAt at h0
          rw [if_neg (by omega), Nat.add_sub_cancel, eq] at h0
          rw [hs1, er, g1, if_pos rfl, h0, show t - 1 + 1 + 1 = t + 1 by omega]
      · rw [if_neg c1, if_neg (by omega)]
        obtain ⟨j, hj, e⟩ := h.os.at (t := s + 1) (by omega)
        have hne := h.os.ne (s := s + 1) (t := t - 1) (by omega) (by omega) (by omega)
        have h0 := h.st (s + 1 + 1) (by omega)
        unfold vAt at h0
        rw [if_neg (by omega), Nat.add_sub_cancel] at h0
        rw [e, g1, if_neg (by omega), if_neg (by omega), ← e, h0]
  · rw [hlen] at hs
    rw [cutP_at ht s]
    split
    · obtain ⟨j, hj, e⟩ := h.os.at (t := s) (by omega)
      rw [g1, if_neg (by omega), if_neg (by omega)]
      exact h.ac s (by omega)
    · obtain ⟨j, hj, e⟩ := h.os.at (t := s + 1) (by omega)
      rw [g1, if_neg (by omega), if_neg (by omega)]
      exact h.ac (s + 1) (by omega)
  · by_cases e : j = q
    · subst e
      right
      rw [g1, if_neg (by omega), if_pos rfl]
    · have hjp : 3 + 5 * j ∉ ps := fun hh => by
        rcases cutP_mem ht hh with h2 | h2
        · omega
        · exact hn h2
      rw [g1, if_neg (by omega), if_neg (by omega), g1, if_neg (by omega), if_neg (by omega)]
      exact h.off j hj hjp

theorem Ok.zero (h : Ok n ps zs) {q : Nat} (hq : q < n) (hm : 3 + 5 * q ∉ ps) : Ok n ps (zs.set (3 + 5 * q + 1) 0) := by
  have hl := h.len
  refine ⟨by rw [List.length_set]; exact hl, h.os, fun t ht => ?_, fun t ht => ?_, fun j hj hn => ?_⟩
  · rw [vAt_set (.inl (by omega)) (fun h0 => by obtain ⟨j, hj, e⟩ := h.os.at (t := t - 1) (by omega); omega)]
    exact h.st t ht
  · obtain ⟨j, hj, e⟩ := h.os.at ht
    have : j ≠ q := by rintro rfl; exact hm (e ▸ getD_mem ht)
    rw [getD_set, if_neg (by omega)]
    exact h.ac t ht
  · by_cases e : j = q
    · subst e
      left
      rw [getD_set, if_pos ⟨rfl, by omega⟩]
    · rw [getD_set, if_neg (by omega), getD_set, if_neg (by omega)]
      exact h.off j hj hn
end

end Go.Proofs.Ytfnjbbokbdddpaa.M2
namespace Go.Proofs.Ytfnjbbokbdddpaa.M2
open Go.RowKit

section
variable {n k : Nat} {os : List Nat} {zs : List Int} {x age : Int}

theorem staleK_mem (hos : Os n os) {ws : List Int} {j : Nat} (hj : j < os.length) : (((os.getD j 0 : Nat) : Int) ∈ staleK ws os age os.length ↔ oldAt ws os age j = true) := by
  unfold staleK
  rw [List.mem_map]
  constructor
  · rintro ⟨i, hi, e⟩
    rw [List.mem_filter, List.mem_range] at hi
    by_cases hij : i = j
    · subst hij; exact hi.2
    · exact absurd (by omega) (hos.ne hi.1 hj hij)
  · intro ho
    exact ⟨j, by rw [List.mem_filter, List.mem_range]; exact ⟨hj, ho⟩, rfl⟩

end

end Go.Proofs.Ytfnjbbokbdddpaa.M2
namespace Go.Proofs.Ytfnjbbokbdddpaa.M2
open Go.RowKit

theorem ld_at {zs : List Int} {x : Nat} (h : x < zs.length) : ld zs (x : Int) = zs.getD x 0 := by
  unfold ld
  rw [if_pos (by omega), Int.toNat_natCast]
theorem ad_at {x i : Nat} (h : x + i < 1000000) : ad (x : Int) (i : Int) = ((x + i : Nat) : Int) := by
  unfold ad wrap64
  omega
theorem sto_at {zs : List Int} {x : Nat} {v : Int} (h : x < zs.length) : sto zs (x : Int) v = zs.set x v := by
  unfold sto
  rw [if_pos (by omega), Int.toNat_natCast]
theorem swp_at {zs : List Int} {x : Nat} {o v : Int} (h : x < zs.length) (e : zs.getD x 0 = o) : swp zs (x : Int) o v = zs.set x v := by
  unfold swp
  rw [if_pos ⟨by omega, by omega, by rw [Int.toNat_natCast]; exact e⟩, Int.toNat_natCast]
theorem swb_at {zs : List Int} {x : Nat} {o : Int} (h : x < zs.length) (e : zs.getD x 0 = o) : swb zs (x : Int) o = true := by
  unfold swb
  exact decide_eq_true ⟨by omega, by omega, by rw [Int.toNat_natCast]; exact e⟩
theorem swp_no {zs : List Int} {x : Nat} {o v : Int} (e : zs.getD x 0 ≠ o) : swp zs (x : Int) o v = zs := by
  unfold swp
  rw [if_neg (fun h => e (by rw [← h.2.2, Int.toNat_natCast]))]
theorem swb_no {zs : List Int} {x : Nat} {o : Int} (e : zs.getD x 0 ≠ o) : swb zs (x : Int) o = false := by
  unfold swb
  exact decide_eq_false (fun h => e (by rw [← h.2.2, Int.toNat_natCast]))

theorem stN_add (ag : Int) (k : Nat) (t : Th) (zs : List Int) : ∀ m, stN ag (k + m) t zs = stN ag m (stN ag k t zs).1 (stN ag k t zs).2
  | 0 => rfl
  | m + 1 => by
    rw [show k + (m + 1) = (k + m) + 1 from rfl]
    show ((swt ag (stN ag (k + m) t zs).1 (stN ag (k + m) t zs).2).t, _) = ((swt ag (stN ag m (stN ag k t zs).1 (stN ag k t zs).2).1 _).t, _)
    rw [stN_add ag k t zs m]

structure Rw (ag : Int) (t : Th) (zs : List Int) (k : Nat) (t' : Th) (zs' : List Int) : Prop where
  e : stN ag k t zs = (t', zs')
  sw : ∀ j, j < k → swB (stN ag j t zs).1 = true

section
variable {ag c : Int} {t t' t1 t2 : Th} {zs zs' z1 z2 : List Int} {k m N : Nat}
theorem Rw.refl : Rw ag t zs 0 t zs := ⟨rfl, fun j hj => by omega⟩
theorem Rw.step (h : Rw ag t zs k t1 z1) (hp : 40 ≤ t1.pc ∧ t1.pc ≤ 48) (e : swt ag t1 z1 = ⟨t2, z2, c⟩) : Rw ag t zs (k + 1) t2 z2 := by
  refine ⟨?_, fun j hj => ?_⟩
  · show ((swt ag (stN ag k t zs).1 (stN ag k t zs).2).t, (swt ag (stN ag k t zs).1 (stN ag k t zs).2).zs) = _
    rw [h.e]
    show ((swt ag t1 z1).t, (swt ag t1 z1).zs) = _
    rw [e]
  · by_cases hk : j = k
    · subst hk; rw [h.e]; exact decide_eq_true hp
    · exact h.sw j (by omega)
theorem Rw.trans (h : Rw ag t zs k t1 z1) (h2 : Rw ag t1 z1 m t2 z2) : Rw ag t zs (k + m) t2 z2 := by
  refine ⟨?_, fun j hj => ?_⟩
  · rw [stN_add, h.e]; exact h2.e
  · by_cases hk : j < k
    · exact h.sw j hk
    · rw [show j = k + (j - k) by omega, stN_add, h.e]
      exact h2.sw _ (by omega)
theorem Rw.all (h : Rw ag t zs N t' zs') (hN : N < 200) (hd : swB t' = false) (sw : ∀ j, j < k → swB (stN ag j t zs).1 = true) (dn : k < 200 → swB (stN ag k t zs).1 = false) (hk : k ≤ 200) : k = N := by
  rcases Nat.lt_trichotomy k N with h1 | h1 | h1
  · have := h.sw k h1
    rw [dn (by omega)] at this
    cases this
  · exact h1
  · have := sw N h1
    rw [h.e, hd] at this
    cases this
end

def swO (ag P : Int) (zs : List Int) (a : Nat) : Bool := oldB (zs.getD a 0) (zs.getD (a + 1) 0) (zs.getD (a + 2) 0) P ag
def swZ (zs : List Int) (ps : List Nat) (j : Nat) : List Int := (cutZ zs ps j).set (ps.getD j 0 + 1) 0

section
variable {ag : Int} {n i : Nat} {ps : List Nat} {zs : List Int} {t : Th}

theorem passNext (hn : n ≤ 100) (h : Ok n ps zs) (hi : i + 1 < ps.length) (hp : t.pc = 41) (hv : t.pv = ((ps.getD i 0 : Nat) : Int)) :
    Rw ag t zs 1 { t with lk := ((ps.getD (i + 1) 0 : Nat) : Int), cu := ((ps.getD (i + 1) 0 : Nat) : Int), pc := 42 } zs := by
  obtain ⟨j, hj, e⟩ := h.os.at (t := i) (by omega)
  obtain ⟨r, hr, er⟩ := h.os.at hi
  have hl := h.len
  have hs := h.st (i + 1) (by omega)
  unfold vAt at hs
  rw [if_neg (by omega), Nat.add_sub_cancel] at hs
  refine Rw.step Rw.refl (by omega) (c := cn zs (ad t.pv 3)) ?_
  rw [swt41 ag t zs hp, hv, show ad ((ps.getD i 0 : Nat) : Int) 3 = ((ps.getD i 0 + 3 : Nat) : Int) from ad_at (i := 3) (by omega), ld_at (by omega), hs, if_neg (by omega)]

theorem passEnd (hn : n ≤ 100) (h : Ok n ps zs) (hi : i + 1 = ps.length) (hp : t.pc = 41) (hv : t.pv = ((ps.getD i 0 : Nat) : Int)) :
    Rw ag t zs 1 { t with lk := 0, pc := 48 } zs := by
  obtain ⟨j, hj, e⟩ := h.os.at (t := i) (by omega)
  have hl := h.len
  have hs := h.st (i + 1) (by omega)
  unfold vAt at hs
  rw [if_neg (by omega), Nat.add_sub_cancel, hi, getD_end] at hs
  refine Rw.step Rw.refl (by omega) (c := cn zs (ad t.pv 3)) ?_
  rw [swt41 ag t zs hp, hv, show ad ((ps.getD i 0 : Nat) : Int) 3 = ((ps.getD i 0 + 3 : Nat) : Int) from ad_at (i := 3) (by omega), ld_at (by omega), hs, if_pos (by rfl)]

theorem passBy (hn : n ≤ 100) (h : Ok n ps zs) (hi : i + 1 < ps.length) (hp : t.pc = 41) (hv : t.pv = ((ps.getD i 0 : Nat) : Int)) (ho : swO ag t.ps zs (ps.getD (i + 1) 0) = false) :
    ∃ k t', Rw ag t zs k t' zs ∧ k ≤ 4 ∧ t'.pc = 41 ∧ t'.pv = ((ps.getD (i + 1) 0 : Nat) : Int) ∧ t'.ps = t.ps := by
  have r1 := passNext (ag := ag) hn h hi hp hv
  obtain ⟨r, hr, er⟩ := h.os.at hi
  have hl := h.len
  generalize ps.getD (i + 1) 0 = q at *
  have a1 : ad ((q : Nat) : Int) 1 = ((q + 1 : Nat) : Int) := ad_at (i := 1) (by omega)
  have a2 : ad ((q : Nat) : Int) 2 = ((q + 2 : Nat) : Int) := ad_at (i := 2) (by omega)
  have a0 : ad ((q : Nat) : Int) 0 = ((q : Nat) : Int) := ad_at (i := 0) (by omega)
  have e42 := swt42 ag { t with lk := (q : Int), cu := (q : Int), pc := 42 } zs rfl
  dsimp only at e42
  rw [a1, ld_at (by omega)] at e42
  by_cases h1 : zs.getD (q + 1) 0 = 1
  · rw [show (zs.getD (q + 1) 0 == 1) = true by simpa using h1] at e42
    have r2 := r1.step (by show (40 : Int) ≤ 42 ∧ (42 : Int) ≤ 48; omega) e42
    simp only [tkT, if_true] at r2
    have e43 := swt43 ag { t with lk := zs.getD (q + 1) 0, cu := (q : Int), pc := 43 } zs rfl
    dsimp only at e43
    rw [a2, ld_at (by omega)] at e43
    by_cases h2 : ag < wrap64 (t.ps - zs.getD (q + 2) 0)
    · rw [decide_eq_true h2] at e43
      have r3 := r2.step (by show (40 : Int) ≤ 43 ∧ (43 : Int) ≤ 48; omega) e43
      simp only [tkT, if_true] at r3
      have h3 : zs.getD q 0 ≠ 0 := by
        intro h3
        unfold swO oldB at ho
        rw [decide_eq_true h1, decide_eq_true h2, decide_eq_true h3] at ho
        cases ho
      have e44 := swt44 ag { t with lk := zs.getD (q + 2) 0, cu := (q : Int), pc := 44 } zs rfl
      dsimp only at e44
      rw [a0, swb_no h3, swp_no h3] at e44
      have r4 := r3.step (by show (40 : Int) ≤ 44 ∧ (44 : Int) ≤ 48; omega) e44
      exact ⟨_, _, r4, by omega, rfl, rfl, rfl⟩
    · rw [decide_eq_false h2] at e43
      have r3 := r2.step (by show (40 : Int) ≤ 43 ∧ (43 : Int) ≤ 48; omega) e43
      exact ⟨_, _, r3, by omega, rfl, rfl, rfl⟩
  · rw [show (zs.getD (q + 1) 0 == 1) = false by simpa using h1] at e42
    have r2 := r1.step (by show (40 : Int) ≤ 42 ∧ (42 : Int) ≤ 48; omega) e42
    exact ⟨_, _, r2, by omega, rfl, rfl, rfl⟩

theorem passCut (hn : n ≤ 100) (h : Ok n ps zs) (hi : i + 1 < ps.length) (hp : t.pc = 41) (hv : t.pv = ((ps.getD i 0 : Nat) : Int)) (ho : swO ag t.ps zs (ps.getD (i + 1) 0) = true) :
    ∃ t', Rw ag t zs 7 t' (swZ zs ps (i + 1)) ∧ t'.pc = 41 ∧ t'.pv = ((ps.getD i 0 : Nat) : Int) ∧ t'.ps = t.ps := by
  have r1 := passNext (ag := ag) hn h hi hp hv
  obtain ⟨r, hr, er⟩ := h.os.at hi
  obtain ⟨j, hj, e⟩ := h.os.at (t := i) (by omega)
  have hl := h.len
  unfold swZ cutZ
  rw [Nat.add_sub_cancel]
  generalize ps.getD (i + 1) 0 = q at *
  generalize ps.getD i 0 = p at *
  have a1 : ad ((q : Nat) : Int) 1 = ((q + 1 : Nat) : Int) := ad_at (i := 1) (by omega)
  have a2 : ad ((q : Nat) : Int) 2 = ((q + 2 : Nat) : Int) := ad_at (i := 2) (by omega)
  have a3 : ad ((q : Nat) : Int) 3 = ((q + 3 : Nat) : Int) := ad_at (i := 3) (by omega)
  have b3 : ad ((p : Nat) : Int) 3 = ((p + 3 : Nat) : Int) := ad_at (i := 3) (by omega)
  have a0 : ad ((q : Nat) : Int) 0 = ((q : Nat) : Int) := ad_at (i := 0) (by omega)
  unfold swO oldB at ho
  simp only [Bool.and_eq_true, decide_eq_true_eq] at ho
  obtain ⟨h1, h3, h2⟩ := ho
  have e42 := swt42 ag { t with lk := (q : Int), cu := (q : Int), pc := 42 } zs rfl
  dsimp only at e42
  rw [a1, ld_at (by omega), show (zs.getD (q + 1) 0 == 1) = true by simpa using h1] at e42
  have r2 := r1.step (by show (40 : Int) ≤ 42 ∧ (42 : Int) ≤ 48; omega) e42
  simp only [tkT, if_true] at r2
  have e43 := swt43 ag { t with lk := zs.getD (q + 1) 0, cu := (q : Int), pc := 43 } zs rfl
  dsimp only at e43
  rw [a2, ld_at (by omega), decide_eq_true h2] at e43
  have r3 := r2.step (by show (40 : Int) ≤ 43 ∧ (43 : Int) ≤ 48; omega) e43
  simp only [tkT, if_true] at r3
  have e44 := swt44 ag { t with lk := zs.getD (q + 2) 0, cu := (q : Int), pc := 44 } zs rfl
  dsimp only at e44
  rw [a0, swb_at (by omega) h3, swp_at (by omega) h3] at e44
  have r4 := r3.step (by show (40 : Int) ≤ 44 ∧ (44 : Int) ≤ 48; omega) e44
  simp only [tkT, if_true] at r4
  have e45 := swt45 ag { t with lk := zs.getD (q + 2) 0, cu := (q : Int), pc := 45 } (zs.set q (-1)) rfl
  dsimp only at e45
  rw [a3, ld_at (by rw [List.length_set]; omega), getD_set, if_neg (by omega)] at e45
  have r5 := r4.step (by show (40 : Int) ≤ 45 ∧ (45 : Int) ≤ 48; omega) e45
  have e46 := swt46 ag { t with lk := zs.getD (q + 3) 0, cu := (q : Int), pc := 46 } (zs.set q (-1)) rfl
  dsimp only at e46
  rw [show ad t.pv 3 = ((p + 3 : Nat) : Int) by rw [hv]; exact b3, sto_at (by rw [List.length_set]; omega)] at e46
  have r6 := r5.step (by show (40 : Int) ≤ 46 ∧ (46 : Int) ≤ 48; omega) e46
  have e47 := swt47 ag { t with lk := zs.getD (q + 3) 0, cu := (q : Int), pc := 47 } ((zs.set q (-1)).set (p + 3) (zs.getD (q + 3) 0)) rfl
  dsimp only at e47
  rw [a1, sto_at (by rw [List.length_set, List.length_set]; omega)] at e47
  have r7 := r6.step (by show (40 : Int) ≤ 47 ∧ (47 : Int) ≤ 48; omega) e47
  exact ⟨_, r7, rfl, hv, rfl⟩
end

def swP (ag P : Int) (zs : List Int) (ps : List Nat) (i : Nat) : List Nat := ps.take (i + 1) ++ (ps.drop (i + 1)).filter fun a => !swO ag P zs a

structure Swp (n i : Nat) (ag P : Int) (ps : List Nat) (zs zs' : List Int) : Prop where
  ok : Ok n (swP ag P zs ps i) zs'
  lo : ∀ a, a < 3 → zs'.getD a 0 = zs.getD a 0
  st : ∀ j, j < n → ¬ (3 + 5 * j ∈ ps.drop (i + 1) ∧ swO ag P zs (3 + 5 * j) = true) → zs'.getD (3 + 5 * j) 0 = zs.getD (3 + 5 * j) 0 ∧ zs'.getD (3 + 5 * j + 1) 0 = zs.getD (3 + 5 * j + 1) 0
  go : ∀ a, a ∈ ps.drop (i + 1) → swO ag P zs a = true → zs'.getD a 0 = -1 ∧ zs'.getD (a + 1) 0 = 0
  ags : ∀ j, j < n → zs'.getD (3 + 5 * j + 2) 0 = zs.getD (3 + 5 * j + 2) 0
  sm : (∀ a, a ∈ ps.drop (i + 1) → swO ag P zs a = false) → zs' = zs

theorem drop_at {ps : List Nat} {i : Nat} (h : i < ps.length) : ps.drop i = ps.getD i 0 :: ps.drop (i + 1) := by
  rw [List.drop_eq_getElem_cons h]
  simp [List.getD, h]
theorem take_at {ps : List Nat} {i : Nat} (h : i < ps.length) : ps.take (i + 1) = ps.take i ++ [ps.getD i 0] := by
  rw [List.take_succ_eq_append_getElem h]
  simp [List.getD, h]

section
variable {ag P : Int} {n i : Nat} {ps : List Nat} {zs zs' : List Int} {t : Th}

theorem Ok.swZ (h : Ok n ps zs) (hi : i + 1 < ps.length) : Ok n (cutP ps (i + 1)) (swZ zs ps (i + 1)) := by
  obtain ⟨h1, h2⟩ := h.cut (t := i + 1) (by omega) hi
  obtain ⟨r, hr, er⟩ := h.os.at hi
  unfold M2.swZ
  rw [er] at h2 ⊢
  exact h1.zero hr h2

theorem swZ_at (h : Ok n ps zs) (hi : i + 1 < ps.length) (x : Nat) : (swZ zs ps (i + 1)).getD x 0 = if x = ps.getD (i + 1) 0 + 1 then 0 else if x = ps.getD i 0 + 3 then zs.getD (ps.getD (i + 1) 0 + 3) 0 else if x = ps.getD (i + 1) 0 then -1 else zs.getD x 0 := by
  obtain ⟨r, hr, er⟩ := h.os.at hi
  obtain ⟨j, hj, e⟩ := h.os.at (t := i) (by omega)
  have hl := h.len
  unfold swZ cutZ
  rw [Nat.add_sub_cancel]
  by_cases e1 : x = ps.getD (i + 1) 0 + 1
  · subst e1
    rw [if_pos rfl, getD_set, if_pos ⟨rfl, by rw [List.length_set, List.length_set]; omega⟩]
  · rw [if_neg e1, getD_set, if_neg (by omega)]
    by_cases e2 : x = ps.getD i 0 + 3
    · subst e2
      rw [if_pos rfl, getD_set, if_pos ⟨rfl, by rw [List.length_set]; omega⟩]
    · rw [if_neg e2, getD_set, if_neg (by omega)]
      by_cases e3 : x = ps.getD (i + 1) 0
      · subst e3
        rw [if_pos rfl, getD_set, if_pos ⟨rfl, by omega⟩]
      · rw [if_neg e3, getD_set, if_neg (by omega)]

theorem swO_cut (h : Ok n ps zs) (hi : i + 1 < ps.length) {j : Nat} (hne : 3 + 5 * j ≠ ps.getD (i + 1) 0) : swO ag P (swZ zs ps (i + 1)) (3 + 5 * j) = swO ag P zs (3 + 5 * j) := by
  obtain ⟨r, hr, er⟩ := h.os.at hi
  obtain ⟨j2, hj2, e⟩ := h.os.at (t := i) (by omega)
  unfold swO
  rw [swZ_at h hi, swZ_at h hi, swZ_at h hi, if_neg (by omega), if_neg (by omega), if_neg (by omega), if_neg (by omega), if_neg (by omega), if_neg (by omega), if_neg (by omega), if_neg (by omega), if_neg (by omega)]

theorem Swp.by (hi : i + 1 < ps.length) (ho : swO ag P zs (ps.getD (i + 1) 0) = false) (h : Swp n (i + 1) ag P ps zs zs') : Swp n i ag P ps zs zs' := by
  have hd := drop_at hi
  have hp : swP ag P zs ps (i + 1) = swP ag P zs ps i := by
    unfold swP
    rw [take_at hi, hd, List.filter_cons, ho]
    simp
  have key : ∀ a, a ∈ ps.drop (i + 1) ↔ a = ps.getD (i + 1) 0 ∨ a ∈ ps.drop (i + 1 + 1) := fun a => by rw [hd, List.mem_cons]
  refine ⟨by rw [← hp]; exact h.ok, h.lo, fun j hj hn => h.st j hj (fun hh => hn ⟨(key _).2 (.inr hh.1), hh.2⟩), fun a ha hs => ?_, h.ags, fun hs => h.sm (fun a ha => hs a ((key a).2 (.inr ha)))⟩
  rcases (key a).1 ha with e | e
  · rw [e, ho] at hs; cases hs
  · exact h.go a e hs

theorem Swp.cut (hk : Ok n ps zs) (hi : i + 1 < ps.length) (ho : swO ag P zs (ps.getD (i + 1) 0) = true) (h : Swp n i ag P (cutP ps (i + 1)) (swZ zs ps (i + 1)) zs') : Swp n i ag P ps zs zs' := by
  obtain ⟨r, hr, er⟩ := hk.os.at hi
  obtain ⟨j2, hj2, e2⟩ := hk.os.at (t := i) (by omega)
  have hd := drop_at hi
  have hdc : (cutP ps (i + 1)).drop (i + 1) = ps.drop (i + 1 + 1) := by
    unfold cutP
    rw [List.drop_append, List.drop_eq_nil_of_le (by rw [List.length_take]; omega), List.length_take, show i + 1 - min (i + 1) ps.length = 0 by omega]
    rfl
  have htc : (cutP ps (i + 1)).take (i + 1) = ps.take (i + 1) := by
    unfold cutP
    rw [List.take_append, List.take_take, Nat.min_self, List.length_take, show i + 1 - min (i + 1) ps.length = 0 by omega]
    simp
  have hne : ∀ a ∈ ps.drop (i + 1 + 1), a ≠ ps.getD (i + 1) 0 := by
    intro a ha he
    obtain ⟨s, hs, e⟩ := List.mem_iff_getElem.1 ha
    rw [List.length_drop] at hs
    rw [List.getElem_drop] at e
    have : ps.getD (i + 1 + 1 + s) 0 = a := by rw [← e]; simp [List.getD, show i + 1 + 1 + s < ps.length by omega]
    exact hk.os.ne (s := i + 1 + 1 + s) (t := i + 1) (by omega) hi (by omega) (this.trans he)
  have key : ∀ a, a ∈ ps.drop (i + 1) ↔ a = ps.getD (i + 1) 0 ∨ a ∈ ps.drop (i + 1 + 1) := fun a => by rw [hd, List.mem_cons]
  have hsame : ∀ a ∈ ps.drop (i + 1 + 1), swO ag P (swZ zs ps (i + 1)) a = swO ag P zs a := fun a ha => by
    obtain ⟨j, hj, e⟩ := hk.os.isr a (List.mem_of_mem_drop ha)
    have := hne a ha
    rw [e] at this ⊢
    exact swO_cut hk hi this
  have hp : swP ag P (swZ zs ps (i + 1)) (cutP ps (i + 1)) i = swP ag P zs ps i := by
    unfold swP
    rw [htc, hdc, hd, List.filter_cons, ho]
    simp only [Bool.not_true, Bool.false_eq_true, if_false]
    rw [List.filter_congr (fun a ha => by rw [hsame a ha])]
  refine ⟨by rw [← hp]; exact h.ok, fun a ha => ?_, fun j hj hn => ?_, fun a ha hs => ?_, fun j hj => ?_, fun hs => ?_⟩
  · rw [h.lo a ha, swZ_at hk hi, if_neg (by omega), if_neg (by omega), if_neg (by omega)]
  · have hj1 : 3 + 5 * j ≠ ps.getD (i + 1) 0 := fun e => hn ⟨(key _).2 (.inl e), by rw [e]; exact ho⟩
    obtain ⟨h1, h2⟩ := h.st j hj (fun hh => hn ⟨(key _).2 (.inr (by rw [hdc] at hh; exact hh.1)), by rw [← hsame _ (by rw [hdc] at hh; exact hh.1)]; exact hh.2⟩)
    rw [h1, h2, swZ_at hk hi, swZ_at hk hi, if_neg (by omega), if_neg (by omega), if_neg (by omega), if_neg (by omega), if_neg (by omega), if_neg (by omega)]
    exact ⟨rfl, rfl⟩
  · rcases (key a).1 ha with e | e
    · have hnd : ¬ (3 + 5 * r ∈ (cutP ps (i + 1)).drop (i + 1) ∧ swO ag P (swZ zs ps (i + 1)) (3 + 5 * r) = true) := fun hh => by
        rw [hdc] at hh
        exact hne _ hh.1 er.symm
      obtain ⟨h1, h2⟩ := h.st r hr hnd
      rw [e, er, h1, h2, swZ_at hk hi, swZ_at hk hi, if_neg (by omega), if_neg (by omega), if_pos er.symm, if_pos (by omega)]
      exact ⟨rfl, rfl⟩
    · exact h.go a (by rw [hdc]; exact e) (by rw [hsame a e]; exact hs)
  · rw [h.ags j hj, swZ_at hk hi, if_neg (by omega), if_neg (by omega), if_neg (by omega)]
  · have := hs _ ((key _).2 (.inl rfl))
    rw [ho] at this
    cases this

theorem sweepRest (hn : n ≤ 100) : ∀ (m : Nat) (ps : List Nat) (zs : List Int) (t : Th) (i : Nat), ps.length = i + 1 + m → Ok n ps zs → t.pc = 41 → t.pv = ((ps.getD i 0 : Nat) : Int) →
    ∃ k t' zs', Rw ag t zs k t' zs' ∧ k ≤ 7 * m + 1 ∧ t'.pc = 48 ∧ Swp n i ag t.ps ps zs zs' := by
  intro m
  induction m with
  | zero =>
    intro ps zs t i hl hk hp hv
    have hdr : ps.drop (i + 1) = [] := List.drop_eq_nil_of_le (by omega)
    refine ⟨1, _, zs, passEnd hn hk (by omega) hp hv, by omega, rfl, ?_, fun a _ => rfl, fun j _ _ => ⟨rfl, rfl⟩, fun a ha => by rw [hdr] at ha; simp at ha, fun j _ => rfl, fun _ => rfl⟩
    unfold swP
    rw [hdr, List.take_of_length_le (by omega)]
    simpa using hk
  | succ m ih =>
    intro ps zs t i hl hk hp hv
    have hi : i + 1 < ps.length := by omega
    cases ho : swO ag t.ps zs (ps.getD (i + 1) 0) with
    | false =>
      obtain ⟨k1, t1, r1, hk1, hp1, hv1, hs1⟩ := passBy hn hk hi hp hv ho
      obtain ⟨k2, t2, zs2, r2, hk2, hp2, w2⟩ := ih ps zs t1 (i + 1) (by omega) hk hp1 hv1
      rw [hs1] at w2
      exact ⟨k1 + k2, t2, zs2, r1.trans r2, by omega, hp2, w2.by hi ho⟩
    | true =>
      obtain ⟨t1, r1, hp1, hv1, hs1⟩ := passCut hn hk hi hp hv ho
      have hk1 := hk.swZ hi
      obtain ⟨k2, t2, zs2, r2, hk2, hp2, w2⟩ := ih (cutP ps (i + 1)) _ t1 i (by rw [cutP_len hi]; omega) hk1 hp1 (by rw [hv1, cutP_at hi, if_pos (by omega)])
      rw [hs1] at w2
      exact ⟨7 + k2, t2, zs2, r1.trans r2, by omega, hp2, w2.cut hk hi ho⟩

theorem sweepAll (hn : n ≤ 100) (hk : Ok n ps zs) (hp : t.pc = 40) :
    ∃ k t' zs', Rw ag t zs k t' (zs'.set 0 0) ∧ k ≤ 7 * ps.length + 3 ∧ t'.pc = 11 ∧ Swp n 0 ag t.ps ps zs zs' := by
  have hl := hk.len
  have hs := hk.st 0 (by omega)
  unfold vAt at hs
  rw [if_pos rfl] at hs
  have e40 := swt40 ag t zs hp
  rw [show ((1 : Int)) = ((1 : Nat) : Int) from rfl, ld_at (by omega), hs] at e40
  have fin : ∀ {k : Nat} {t1 : Th} {z1 : List Int}, Rw ag t zs k t1 z1 → t1.pc = 48 → z1.length = 3 + 5 * n → Rw ag t zs (k + 1) { t1 with pc := 11 } (z1.set 0 0) := by
    intro k t1 z1 r h1 hz
    have e48 := swt48 ag t1 z1 h1
    rw [show sto z1 0 0 = z1.set 0 0 from sto_at (x := 0) (by omega)] at e48
    exact r.step (by omega) e48
  cases ps with
  | nil =>
    rw [if_pos (by rfl)] at e40
    have r1 := (Rw.refl (ag := ag) (t := t) (zs := zs)).step (by omega) e40
    refine ⟨2, _, zs, fin r1 rfl hl, by omega, rfl, ?_, fun a _ => rfl, fun j _ _ => ⟨rfl, rfl⟩, fun a ha => by simp at ha, fun j _ => rfl, fun _ => rfl⟩
    simpa [swP] using hk
  | cons a rest =>
    obtain ⟨j, hj, e⟩ := hk.os.at (t := 0) (by simp)
    rw [if_neg (by omega)] at e40
    have r1 := (Rw.refl (ag := ag) (t := t) (zs := zs)).step (by omega) e40
    obtain ⟨k2, t2, zs2, r2, hk2, hp2, w2⟩ := sweepRest (ag := ag) hn rest.length (a :: rest) zs { t with lk := (((a :: rest).getD 0 0 : Nat) : Int), pv := (((a :: rest).getD 0 0 : Nat) : Int), pc := 41 } 0 (by simp; omega) hk rfl rfl
    refine ⟨_, _, zs2, fin (r1.trans r2) hp2 w2.ok.len, ?_, rfl, w2⟩
    simp only [List.length_cons]
    omega

theorem Ok.lock (h : Ok n ps zs) (x : Int) : Ok n ps (zs.set 0 x) := by
  have hv : ∀ t, t ≤ ps.length → vAt (zs.set 0 x) ps t = vAt zs ps t := fun t _ => vAt_set (.inl (by omega)) (fun _ => by omega)
  refine ⟨by rw [List.length_set]; exact h.len, h.os, fun t ht => by rw [hv t ht]; exact h.st t ht, fun t ht => ?_, fun j hj hm => ?_⟩
  · rw [getD_set, if_neg (by omega)]; exact h.ac t ht
  · rw [getD_set, if_neg (by omega), getD_set, if_neg (by omega)]; exact h.off j hj hm
end

end Go.Proofs.Ytfnjbbokbdddpaa.M2
namespace Go.Proofs.Ytfnjbbokbdddpaa.M2
open Go.RowKit

def AllPost (w : World) (B p : Nat) (v0 : Value) (size st ag : Int) (t : Th) (zs : List Int) (e : Ending) (w' : World) : Prop :=
  ∃ (k : Nat) (st' : Int), e = .returned (.tuple #[thN (stN ag k t zs).1, .int .i64 (k : Int)]) ∧ Did B p v0 size (stN ag k t zs).2 st' w w' ∧ (st ≤ st' ∧ st' ≤ st + 200) ∧ k ≤ 200 ∧ (∀ j, j < k → swB (stN ag j t zs).1 = true) ∧ (k < 200 → swB (stN ag k t zs).1 = false)

structure AllR (w : World) (B p g : Nat) (v0 : Value) (size s0 ag : Int) (t : Th) (zs : List Int) (k : Nat) (wr : World) : Prop where
  m : ∃ st, Did B p v0 size (stN ag k t zs).2 st w wr ∧ s0 ≤ st ∧ st ≤ s0 + (k : Int)
  x : TX wr g (stN ag k t zs).1 (.slice none 0 0)
  y : TX wr w.heap.size t0 (.slice none 0 0)
  sw : ∀ j, j < k → swB (stN ag j t zs).1 = true
  hg : g = w.heap.size + 1

theorem Did.refl {B p : Nat} {v0 : Value} {size : Int} {zs : List Int} {st : Int} {w : World} (m : Mem w B p v0 size zs st) : Did B p v0 size zs st w w := ⟨v0, m, Wrote.refl _ _ _, Later.refl _ _⟩
theorem Did.on {B p : Nat} {v0 : Value} {size : Int} {zs : List Int} {st : Int} {w a b : World} (d : Did B p v0 size zs st w a) (hb : Below a.heap.size a b) : Did B p v0 size zs st w b := by
  obtain ⟨u, m, wr, lt⟩ := d
  exact Did.comp wr lt ⟨u, m.fresh hb, ⟨hb.os, hb.tape, hb.output, hb.size, fun k hk _ _ => hb.block k hk⟩, Later.refl _ _⟩

section
variable {w wr W : World} {B p g : Nat} {v0 : Value} {size s0 ag : Int} {t : Th} {zs : List Int} {k : Nat}
theorem AllR.fresh (h : AllR w B p g v0 size s0 ag t zs k wr) (hb : Below wr.heap.size wr W) : AllR w B p g v0 size s0 ag t zs k W :=
  ⟨by obtain ⟨st, m, s⟩ := h.m; exact ⟨st, m.on hb, s⟩, h.x.keep hb, h.y.keep hb, h.sw, h.hg⟩
end

set_option maxRecDepth 100000 in
set_option maxHeartbeats 16000000 in
theorem allAny {w : World} {B p : Nat} {v0 : Value} {size : Int} {zs : List Int} {st : Int} (m : Mem w B p v0 size zs st) (ag ps : Int) (k0 : 0 ≤ st) (k1 : st ≤ 500000) :
    Calls Try.prog 17 #[.pointer (some ⟨p, 0, none⟩), .int .i64 ag, .int .i64 ps] w (AllPost w B p v0 size st ag { t0 with pc := 40, ps := ps } zs) := by
  have HM := Lib.hid m
  have HK := Lib.hid (And.intro k0 k1)
  clear m k0 k1
  obtain ⟨t, ht⟩ : ∃ t : Th, t = { t0 with pc := 40, ps := ps } := ⟨_, rfl⟩
  rw [← ht]
  go_enter Try.func17, Try.ntmps17
  go_upto_region 2 with (fail)
  generalize hW : (w.alloc (.cells #[.int .i64 0, .int .i64 0, .int .i64 0, .int .i64 0, .int .i64 0, .int .i64 0, .int .i64 0, .int .i64 0, .int .i64 0, .int .i64 0, .int .i64 0, .int .i64 0, .slice none 0 0] 25)).alloc (.cells #[.int .i64 0, .int .i64 40, .int .i64 0, .int .i64 0, .int .i64 0, .int .i64 0, .int .i64 0, .int .i64 0, .int .i64 0, .int .i64 0, .int .i64 ps, .int .i64 0, .slice none 0 0] 25) = W
  have hb : Below w.heap.size w W := by subst hW; exact ((Below.refl _ _).alloc (Nat.le_refl _) _).alloc (by simp) _
  have HA0 := Lib.hid (show AllR w B p (w.heap.size + 1) v0 size st ag t zs 0 W from
    ⟨⟨st, (Did.refl HM.out).on hb, by have := HK.out; omega⟩, by
      subst hW ht
      have := TX.new (w.alloc (.cells #[.int .i64 0, .int .i64 0, .int .i64 0, .int .i64 0, .int .i64 0, .int .i64 0, .int .i64 0, .int .i64 0, .int .i64 0, .int .i64 0, .int .i64 0, .int .i64 0, .slice none 0 0] 25)) { t0 with pc := 40, ps := ps } (.slice none 0 0)
      have hs : (w.alloc (.cells #[.int .i64 0, .int .i64 0, .int .i64 0, .int .i64 0, .int .i64 0, .int .i64 0, .int .i64 0, .int .i64 0, .int .i64 0, .int .i64 0, .int .i64 0, .int .i64 0, .slice none 0 0] 25)).heap.size = w.heap.size + 1 := by simp
      rw [hs] at this
      exact this, by subst hW; exact (TX.new w t0 (.slice none 0 0)).alloc _, fun j hj => by omega, rfl⟩)
  clear hW hb ht
  obtain ⟨g, hg⟩ : ∃ g, w.heap.size + 1 = g := ⟨_, rfl⟩
  rw [hg] at HA0 ⊢
  go_wp2_with fail
  go_loopw [9] (fun kv wr => ∃ k : Nat, k ≤ 200 ∧ kv = .int .i64 (k : Int) ∧ AllR w B p g v0 size st ag t zs k wr) (fun kv _ => 200 - (intOf kv).toNat)
  case atStart => exact ⟨0, by omega, rfl, HA0.out⟩
  case round =>
    obtain ⟨k, hk, rfl, hK⟩ := hrel
    clear HA0
    have HKR := Lib.hid hK
    have fin : ∀ W, AllR w B p g v0 size st ag t zs k W → (k < 200 → swB (stN ag k t zs).1 = false) → AllPost w B p v0 size st ag t zs (.returned (.tuple #[thN (stN ag k t zs).1, .int .i64 (k : Int)])) (setT W w.heap.size (stN ag k t zs).1 (.slice none 0 0)) := by
      intro W h hd
      obtain ⟨s, m, s0⟩ := h.m
      exact ⟨k, s, rfl, m.setT h.y (Nat.le_refl _) _ _, by omega, hk, h.sw, hd⟩
    have HF := Lib.hid fin
    clear fin
    obtain ⟨T, hT⟩ : ∃ T, (stN ag k t zs).1 = T := ⟨_, rfl⟩
    obtain ⟨Z, hZ⟩ : ∃ Z, (stN ag k t zs).2 = Z := ⟨_, rfl⟩
    have HT := Lib.hid hT
    have HZ := Lib.hid hZ
    rw [hT] at HF
    have ENDW : True := trivial
    by_cases hlt : k < 200
    · have i1 : (k : Int) < 200 := by omega
      have HLT := Lib.hid hlt
      have S := sweepsN wr T
      rw [show thN T = .agg #[.int .i64 T.ti, .int .i64 T.pc, .int .i64 T.rc, .int .i64 T.sq, .int .i64 T.wo, .int .i64 T.lk, .int .i64 T.cu, .int .i64 T.pv, .int .i64 T.nt, .int .i64 T.mx, .int .i64 T.ps, .int .i64 T.rn, .slice none 0 0] from rfl, show decide (40 ≤ T.pc ∧ T.pc ≤ 48) = swB T from rfl] at S
      have HS := Lib.hid S
      have x := hK.x
      rw [hT] at x
      clear S hT hZ hlt hk hK
      have c0 := x.c0
      have c1 := x.c1
      have c2 := x.c2
      have c3 := x.c3
      have c4 := x.c4
      have c5 := x.c5
      have c6 := x.c6
      have c7 := x.c7
      have c8 := x.c8
      have c9 := x.c9
      have c10 := x.c10
      have c11 := x.c11
      have c12 := x.c12
      clear x
      go_wp2_with fail
      with_reducible refine HS.out.mono ?_
      clear HS c0 c1 c2 c3 c4 c5 c6 c7 c8 c9 c10 c11 c12
      rintro e w1 ⟨rfl, b1⟩
      have HK1 := Lib.hid (HKR.out.fresh b1)
      clear b1 HKR
      obtain ⟨is, his⟩ : ∃ is, swB T = is := ⟨_, rfl⟩
      have HIS := Lib.hid his
      rw [his]
      clear his
      cases is
      · have x := HK1.out.x
        rw [HT.out] at x
        have y := HK1.out.y
        have yf := y.f
        have c0 := x.c0
        have c1 := x.c1
        have c2 := x.c2
        have c3 := x.c3
        have c4 := x.c4
        have c5 := x.c5
        have c6 := x.c6
        have c7 := x.c7
        have c8 := x.c8
        have c9 := x.c9
        have c10 := x.c10
        have c11 := x.c11
        have c12 := x.c12
        have r0 := y.c0
        have r1 := y.c1
        have r2 := y.c2
        have r3 := y.c3
        have r4 := y.c4
        have r5 := y.c5
        have r6 := y.c6
        have r7 := y.c7
        have r8 := y.c8
        have r9 := y.c9
        have r10 := y.c10
        have r11 := y.c11
        have r12 := y.c12
        clear x y
        go_wp2
        change bodyPost _ _ _ _ _ (setT w1 w.heap.size T (.slice none 0 0))
        have Z := HK1.out.y.all T (.slice none 0 0)
        refine bodyPost_ret (v := .tuple #[thN T, .int .i64 (k : Int)]) (by simp [results, Try.results17, go_sem, thN, Z.c0, Z.c1, Z.c2, Z.c3, Z.c4, Z.c5, Z.c6, Z.c7, Z.c8, Z.c9, Z.c10, Z.c11, Z.c12]) rfl (HF.out w1 HK1.out (fun _ => HIS.out))
      · obtain ⟨s, m0, s0⟩ := HK1.out.m
        rw [HZ.out] at m0
        obtain ⟨v1, m, wr1, lt1⟩ := m0
        have HD := Lib.hid (And.intro wr1 lt1)
        have HMM := Lib.hid m
        have C := stepM m ag T (by have := HK.out; omega) (by have := HLT.out; have := HK.out; omega)
        have HN := Lib.hid (show ((swt ag T Z).t, (swt ag T Z).zs) = stN ag (k + 1) t zs by rw [← HT.out, ← HZ.out]; rfl)
        have HC1 := Lib.hid (swt_c ag T Z)
        obtain ⟨S, hS⟩ : ∃ S, swt ag T Z = S := ⟨_, rfl⟩
        rw [hS] at C HN HC1
        rw [show thN T = .agg #[.int .i64 T.ti, .int .i64 T.pc, .int .i64 T.rc, .int .i64 T.sq, .int .i64 T.wo, .int .i64 T.lk, .int .i64 T.cu, .int .i64 T.pv, .int .i64 T.nt, .int .i64 T.mx, .int .i64 T.ps, .int .i64 T.rn, .slice none 0 0] from rfl, show thN S.t = .agg #[.int .i64 S.t.ti, .int .i64 S.t.pc, .int .i64 S.t.rc, .int .i64 S.t.sq, .int .i64 S.t.wo, .int .i64 S.t.lk, .int .i64 S.t.cu, .int .i64 S.t.pv, .int .i64 S.t.nt, .int .i64 S.t.mx, .int .i64 S.t.ps, .int .i64 S.t.rn, .slice none 0 0] from rfl] at C
        have HC := Lib.hid C
        have HS0 := Lib.hid s0
        have x := HK1.out.x
        rw [HT.out] at x
        clear C hS m s0 wr1 lt1
        have c0 := x.c0
        have c1 := x.c1
        have c2 := x.c2
        have c3 := x.c3
        have c4 := x.c4
        have c5 := x.c5
        have c6 := x.c6
        have c7 := x.c7
        have c8 := x.c8
        have c9 := x.c9
        have c10 := x.c10
        have c11 := x.c11
        have c12 := x.c12
        clear x
        go_wp2_with fail
        with_reducible refine HC.out.mono ?_
        clear HC c0 c1 c2 c3 c4 c5 c6 c7 c8 c9 c10 c11 c12
        rintro e w5 ⟨rfl, d5⟩
        have k5 := d5.kept HMM.out
        have D5 := Did.comp HD.out.1 HD.out.2 d5
        have x5 : TX w5 g T (.slice none 0 0) := by
          have x := HK1.out.x
          rw [HT.out] at x
          exact x.off k5
        have xf := x5.f
        have c0 := x5.c0
        have c1 := x5.c1
        have c2 := x5.c2
        have c3 := x5.c3
        have c4 := x5.c4
        have c5 := x5.c5
        have c6 := x5.c6
        have c7 := x5.c7
        have c8 := x5.c8
        have c9 := x5.c9
        have c10 := x5.c10
        have c11 := x5.c11
        have c12 := x5.c12
        have HX := Lib.hid x5
        have HX6 := Lib.hid (show AllR w B p g v0 size st ag t zs (k + 1) (setT w5 g S.t (.slice none 0 0)) from
          ⟨⟨s + S.c, by rw [← HN.out]; exact D5.setT x5 (by have := HK1.out.hg; omega) _ _, by have := HS0.out; have := HC1.out; omega⟩, by rw [← HN.out]; exact x5.all _ _, (setT_other _ (by have := HK1.out.hg; omega) _ _).trans (HK1.out.y.off k5), fun j hj => by
            by_cases e : j = k
            · subst e; rw [HT.out]; exact HIS.out
            · exact HK1.out.sw j (by omega), HK1.out.hg⟩)
        clear d5 k5 D5 x5
        go_upto_region 5 with (fail)
        change Code.wp _ _ _ _ (setT w5 g S.t (.slice none 0 0))
        clear c0 c1 c2 c3 c4 c5 c6 c7 c8 c9 c10 c11 c12 xf
        go_wp2
        go_roundw
        case rel => exact ⟨k + 1, by have := HLT.out; omega, by go_num, HX6.out⟩
        case measure => have := HLT.out; simp [intOf]; omega
    · obtain rfl : k = 200 := by omega
      have x := hK.x
      rw [hT] at x
      have y := hK.y
      have yf := y.f
      have c0 := x.c0
      have c1 := x.c1
      have c2 := x.c2
      have c3 := x.c3
      have c4 := x.c4
      have c5 := x.c5
      have c6 := x.c6
      have c7 := x.c7
      have c8 := x.c8
      have c9 := x.c9
      have c10 := x.c10
      have c11 := x.c11
      have c12 := x.c12
      have r0 := y.c0
      have r1 := y.c1
      have r2 := y.c2
      have r3 := y.c3
      have r4 := y.c4
      have r5 := y.c5
      have r6 := y.c6
      have r7 := y.c7
      have r8 := y.c8
      have r9 := y.c9
      have r10 := y.c10
      have r11 := y.c11
      have r12 := y.c12
      clear x y hT hZ hlt hk hK
      go_wp2
      change bodyPost _ _ _ _ _ (setT wr w.heap.size T (.slice none 0 0))
      have Z := HKR.out.y.all T (.slice none 0 0)
      refine bodyPost_ret (v := .tuple #[thN T, .int .i64 200]) (by simp [results, Try.results17, go_sem, thN, Z.c0, Z.c1, Z.c2, Z.c3, Z.c4, Z.c5, Z.c6, Z.c7, Z.c8, Z.c9, Z.c10, Z.c11, Z.c12]) rfl (HF.out wr HKR.out (fun h => by omega))

theorem allOk {w : World} {B p : Nat} {v0 : Value} {size : Int} {zs : List Int} {st : Int} (m : Mem w B p v0 size zs st) {n : Nat} {ps : List Nat} (hk : Ok n ps zs) (hn : n ≤ 20) (ag P : Int) (k0 : 0 ≤ st) (k1 : st ≤ 500000) :
    Calls Try.prog 17 #[.pointer (some ⟨p, 0, none⟩), .int .i64 ag, .int .i64 P] w fun e w' => ∃ (T : Th) (k : Nat) (zs' : List Int) (st' : Int), e = .returned (.tuple #[thN T, .int .i64 (k : Int)]) ∧ T.pc = 11 ∧ k ≤ 7 * ps.length + 3 ∧ Did B p v0 size (zs'.set 0 0) st' w w' ∧ (st ≤ st' ∧ st' ≤ st + 200) ∧ Swp n 0 ag P ps zs zs' := by
  refine (allAny m ag P k0 k1).mono ?_
  rintro e w' ⟨k, st', rfl, d, hs, hk2, sw, dn⟩
  have hle := hk.os.le
  obtain ⟨N, T, zs', r, hN, hp, s⟩ := sweepAll (ag := ag) (t := { t0 with pc := 40, ps := P }) (by omega) hk rfl
  have hkN := r.all (by omega) (show swB T = false by unfold swB; rw [hp]; rfl) sw dn hk2
  subst hkN
  rw [r.e] at d ⊢
  exact ⟨T, k, zs', st', rfl, hp, hN, d, hs, s⟩

end Go.Proofs.Ytfnjbbokbdddpaa.M2
namespace Go.Proofs.Ytfnjbbokbdddpaa.M2
open Go.RowKit

def MadeT (w : World) (zs : List Int) (e : Ending) (w' : World) : Prop :=
  ∃ p u v, e = .returned (.tuple #[.pointer (some ⟨p, 0, none⟩), .agg #[.int .i64 (zs.length : Int), u, .int .i64 (1 + (zs.length : Int))]]) ∧ Mem w' w.heap.size p v zs.length zs (1 + (zs.length : Int)) ∧
    w'.ownsRow w.heap.size 2 1 u zs.length (zs.map (Value.int .i64)) ∧ (∀ g, u.ownBlock = some g → v.ownBlock ≠ some g) ∧ Below w.heap.size w w'

set_option maxRecDepth 100000 in
set_option maxHeartbeats 16000000 in
theorem memoryTwo (w : World) (ao : Option Addr) (len cap : Nat) (zs : List Int) (hz : Reads .i64 w ao len zs) (hl : len ≤ 200) :
    Calls Try.prog 15 #[.slice ao len cap] w (MadeT w zs) := by
  obtain rfl : zs.length = len := hz.1
  have HZ := Lib.hid hz
  clear hz
  have HS := Lib.hid (sizeOf'_self zs.length hl)
  have HL := Lib.hid hl
  obtain ⟨len, hlen⟩ : ∃ n, zs.length = n := ⟨_, rfl⟩
  rw [hlen] at HS HL hl ⊢
  have HE := Lib.hid hlen
  clear hlen
  go_enter Try.func15, Try.ntmps15
  go_wp2_with fail
  generalize hW : w.alloc (.cells #[.int .i64 0, .slice none 0 0, .int .i64 0] 39) = W
  have HT := Lib.hid (show Boxed W w.heap.size (.int .i64 0) (.slice none 0 0) (.int .i64 0) by subst hW; exact Boxed.new _ _ _ _)
  have HB := Lib.hid (show Below w.heap.size w W by subst hW; exact (Below.refl _ _).alloc (Nat.le_refl _) _)
  clear hW
  refine (newAny (len : Int) W).mono ?_
  rintro e w1 ⟨rfl, m1, b1⟩
  rw [HS.out] at m1
  have HM1 := Lib.hid m1
  have HT1 := Lib.hid (HT.out.keep b1)
  have HB1 := Lib.hid (HB.out.trans (b1.mono HB.out.size))
  have HX := Lib.hid (show w.heap.size < W.heap.size from HT.out.lt)
  clear b1 m1 HT
  go_wp2_with fail
  refine (refNew (len : Int) w1).mono ?_
  rintro e w2 ⟨rfl, b2⟩
  rw [HS.out]
  go_upto_region 3 with (fail)
  generalize hW3 : w2.alloc (.cells #[.int .i64 (len : Int), .slice none 0 0, .int .i64 0] 39) = W3
  have HBM := Lib.hid (show BM w w2.heap.size W.heap.size (.slice none 0 0) (.slice none 0 0) (len : Int) [] 0 [] 0 W3 by
    subst hW3
    have hb := b2.alloc b2.size (.cells #[.int .i64 (len : Int), .slice none 0 0, .int .i64 0] 39)
    have m := HM1.out.fresh hb
    refine ⟨⟨m.block, Nat.le_trans (Nat.le_of_lt HX.out) m.low, World.ownsRow_nil _ _ _ _, m.s0, m.s1, m.room⟩, World.ownsRow_nil _ _ _ _, by simp [Value.ownBlock], Boxed.new _ _ _ _, HT1.out.keep hb, ?_, HB1.out.trans (hb.mono HB1.out.size)⟩
    have := HT1.out.lt
    have := b2.size
    omega)
  clear hW3 b2 HM1 HT1 HB1 HB HX
  generalize w2.heap.size = rb at *
  generalize W.heap.size = p at *
  have C := refAllocOk (size := (len : Int)) (st := 0) HBM.out.o HBM.out.b.size len (by have := HL.out; omega) (by simp) (by simp) (by omega) (by omega)
  have c0 := HBM.out.r.c0
  have c1 := HBM.out.r.c1
  have c2 := HBM.out.r.c2
  go_wp2_with fail
  refine C.mono ?_
  clear C c0 c1 c2
  rintro e w4 ⟨u4, rfl, l4⟩
  have l4 : Left W3 w.heap.size (.slice none 0 0) (List.replicate len 0) u4 w4 := l4
  obtain ⟨a4, cp4, e4⟩ := ownShape l4.1
  rw [List.length_replicate] at e4
  subst e4
  have HAF := Lib.hid (AF.a HBM.out l4)
  clear l4 HBM
  go_upto_region 4 with (fail)
  generalize hW5 : w4.alloc (.cells #[.int .i64 (len : Int), .slice a4 len cp4, .int .i64 (0 + 1)] 39) = W5 at HAF
  have hW5' : w4.alloc (.cells #[.int .i64 (len : Int), .slice a4 len cp4, .int .i64 1] 39) = W5 := hW5
  rw [hW5']
  clear hW5 hW5'
  generalize w4.heap.size = nb at *
  have c0 := HAF.out.r2.c0
  have c1 := HAF.out.r2.c1
  have c2 := HAF.out.r2.c2
  have d0 := HAF.out.h.r.c0
  have d1 := HAF.out.h.r.c1
  have d2 := HAF.out.h.r.c2
  have df := HAF.out.h.r.f
  have C := HAF.out.turn.alloc len (by simp) (by omega) (by omega)
  go_wp2_with fail
  refine C.mono ?_
  clear C c0 c1 c2 d0 d1 d2 df
  rintro e w6 ⟨rfl, v6, bm6⟩
  have HM6 := Lib.hid (show BM w rb p v6 (.slice a4 len cp4) (len : Int) (setN (List.replicate len 0) 0 zs 0) (1 + ((0 : Nat) : Int)) (setN (List.replicate len 0) 0 zs 0) (1 + ((0 : Nat) : Int)) w6 from bm6)
  clear bm6 HAF
  go_wp2
  go_loopw [9] (fun iv wr => MemoRel w rb p zs iv wr) (fun iv _ => zs.length - (intOf iv).toNat)
  case atStart => exact ⟨0, v6, _, by omega, rfl, by rw [HE.out]; exact HM6.out⟩
  case round =>
    obtain ⟨k, v, u, hk, rfl, hbm⟩ := hrel
    have HBM := Lib.hid hbm
    clear hbm HM6
    rw [HE.out] at hk HBM
    obtain ⟨aq, cq, eq⟩ := ownShape HBM.out.o
    rw [setN_length, List.length_replicate] at eq
    subst eq
    by_cases hlt : k < len
    · have i0 : (k : Int) < (len : Int) := by omega
      obtain ⟨b, off, rfl, lb, hcs⟩ := HZ.out.2 (by have := HE.out; omega)
      have hck := hcs k (by have := HE.out; omega)
      have cz := (HBM.out.b.cell (p := ⟨b, off + k, none⟩) lb).trans hck
      clear hcs
      obtain ⟨z, hzz⟩ : ∃ z, zs.getD k 0 = z := ⟨_, rfl⟩
      obtain ⟨Y, hY⟩ : ∃ Y, setN (List.replicate len 0) 0 zs k = Y := ⟨_, rfl⟩
      obtain ⟨Z, hZ⟩ : ∃ Z, Y.set k z = Z := ⟨_, rfl⟩
      have HY1 := Lib.hid (show setN (List.replicate len 0) 0 zs (k + 1) = Z by rw [setN, hY, hzz, Nat.zero_add]; exact hZ)
      have hYl : Y.length = len := by rw [← hY, setN_length, List.length_replicate]
      have hZl : Z.length = len := by rw [← hZ, List.length_set]; exact hYl
      have HYL := Lib.hid hYl
      have HZL := Lib.hid hZl
      have HZ1 := Lib.hid hZ
      rw [hzz] at cz
      rw [hY] at HBM
      rw [hzz] at hck
      have HK := Lib.hid (show ∀ W, Below w.heap.size w W → W.cell? ⟨b, off + k, none⟩ = some (.int .i64 z) from fun W hW => (hW.cell (p := ⟨b, off + k, none⟩) lb).trans hck)
      clear hck
      clear hzz hY hZ hYl hZl
      have C := HBM.out.store (k : Int) z (by omega) (by have := HYL.out; omega) (by omega) (by omega)
      rw [show ((k : Int)).toNat = k by omega, HZ1.out] at C
      go_wp2_with fail
      refine C.mono ?_
      clear C cz
      rintro e w3 ⟨rfl, v3, bm3⟩
      have HB3 := Lib.hid bm3
      have HBd := Lib.hid (bm3.fresh (Below.refl _ _).drew)
      clear bm3 HBM
      have c0 := HK.out w3 HB3.out.b
      have c1 := HB3.out.r.c0
      have c2 := HB3.out.r.c1
      have c3 := HB3.out.r.c2
      have d0 := HK.out w3.drew HBd.out.b
      have d1 := HBd.out.r.c0
      have d2 := HBd.out.r.c1
      have d3 := HBd.out.r.c2
      go_upto_region 10 with (fail)
      go_cut [10, 11] from 44 to 53 (fun d x wx => ∃ (nb : Nat) (a2 : Option Addr) (cp2 : Nat), d = .pointer (some ⟨nb, 0, none⟩) ∧ x = .int .i64 0 ∧ Hid (AF w rb p nb v3 (.slice aq len cq) (.slice a2 len cp2) (len : Int) Z (1 + (k : Int) + 1) Y Z (1 + (k : Int)) wx))
      case first =>
        have HCA := Lib.hid (refStoreIn (size := (len : Int)) (st := 1 + (k : Int)) HBd.out.o HBd.out.b.size (k : Int) z (by omega) (by have := HYL.out; omega) (by have := HYL.out; have := HL.out; omega) (by omega) (by omega))
        have HCB := Lib.hid (refStoreIn (w := w3.drew.alloc (.cells #[.int .i64 0, .slice none 0 0, .int .i64 0] 39)) (size := (len : Int)) (st := 1 + (k : Int)) (HBd.out.o.alloc _) (Nat.le_trans HBd.out.b.size (by simp)) (k : Int) z (by omega) (by have := HYL.out; omega) (by have := HYL.out; have := HL.out; omega) (by omega) (by omega))
        rw [show ((k : Int)).toNat = k by omega, HZ1.out] at HCA HCB
        have hne : b ≠ w3.heap.size := by
          have := lb
          have := HB3.out.b.size
          omega
        have hnr : rb ≠ w3.heap.size := by
          have := HB3.out.r.lt
          omega
        have HNE := Lib.hid hne
        have HNR := Lib.hid hnr
        clear hne hnr
        have q0 : ((w3.alloc (.cells #[.int .i64 0, .slice none 0 0, .int .i64 0] 39)).drew).cell? ⟨b, off + k, none⟩ = some (.int .i64 z) := cellKept d0 _
        have q1 : ((w3.alloc (.cells #[.int .i64 0, .slice none 0 0, .int .i64 0] 39)).drew).cell? ⟨rb, 0, none⟩ = some (.int .i64 (len : Int)) := cellKept d1 _
        have q2 : ((w3.alloc (.cells #[.int .i64 0, .slice none 0 0, .int .i64 0] 39)).drew).cell? ⟨rb, 1, none⟩ = some (.slice aq len cq) := cellKept d2 _
        have q3 : ((w3.alloc (.cells #[.int .i64 0, .slice none 0 0, .int .i64 0] 39)).drew).cell? ⟨rb, 2, none⟩ = some (.int .i64 (1 + (k : Int))) := cellKept d3 _
        go_wp2
        go_region_held3 (fun w' => w'.cell? ⟨b, off + k, none⟩ = some (.int .i64 z) ∧ w'.cell? ⟨rb, 0, none⟩ = some (.int .i64 (len : Int)) ∧ w'.cell? ⟨rb, 1, none⟩ = some (.slice aq len cq) ∧ w'.cell? ⟨rb, 2, none⟩ = some (.int .i64 (1 + (k : Int)))) (((try dsimp only); first
          | with_reducible exact ⟨c0, c1, c2, c3⟩ | with_reducible exact ⟨d0, d1, d2, d3⟩ | with_reducible exact ⟨q0, q1, q2, q3⟩ | with_reducible exact ⟨cellKept c0 _, cellKept c1 _, cellKept c2 _, cellKept c3 _⟩ | with_reducible exact ⟨cellKept d0 _, cellKept d1 _, cellKept d2 _, cellKept d3 _⟩ | with_reducible exact ⟨x0, x1, x2, x3⟩ | with_reducible exact ⟨cellKept x0 _, cellKept x1 _, cellKept x2 _, cellKept x3 _⟩ | with_reducible exact ⟨other3 HNE.out x0 _ _ _, other3 HNR.out x1 _ _ _, other3 HNR.out x2 _ _ _, other3 HNR.out x3 _ _ _⟩))
          ((go_at_call 37; first
          | (refine HCA.out.mono ?_; rintro e w5 ⟨u5, rfl, l5⟩; obtain ⟨a5, cp5, e5⟩ := ownShape l5.1; rw [HZL.out] at e5; subst e5; have HF := Lib.hid (AF.a HBd.out l5); have hx := HBd.out.fresh l5.2.2; have x0 := HK.out w5 hx.b; have x1 := hx.r.c0; have x2 := hx.r.c1; have x3 := hx.r.c2; clear l5 hx)
          | (refine HCB.out.mono ?_; rintro e w5 ⟨u5, rfl, l5⟩; obtain ⟨a5, cp5, e5⟩ := ownShape l5.1; rw [HZL.out] at e5; subst e5; have HF := Lib.hid (AF.b HBd.out rfl l5); have hx := HBd.out.fresh (((Below.refl _ _).alloc (Nat.le_refl _) _).trans (l5.2.2.mono (by simp))); have x0 := HK.out w5 hx.b; have x1 := hx.r.c0; have x2 := hx.r.c1; have x3 := hx.r.c2; have hz := (Boxed.new w3.drew (.int .i64 0) (.slice none 0 0) (.int .i64 0)).keep l5.2.2; have y0 : w5.cell? ⟨w3.heap.size, 0, none⟩ = _ := hz.c0; have y1 : w5.cell? ⟨w3.heap.size, 1, none⟩ = _ := hz.c1; have y2 : w5.cell? ⟨w3.heap.size, 2, none⟩ = _ := hz.c2; have yf : ∀ o, w5.frozen? ⟨w3.heap.size, o, none⟩ = false := hz.f; clear l5 hx hz)))
        all_goals
          go_wp2
          go_meet
          exact ⟨_, _, _, rfl, rfl, HF⟩
      case' rest => skip
      obtain ⟨nb2, a2, cp2, rfl, rfl, HAF⟩ := hcut
      have e0 := HAF.out.r2.c0
      have e1 := HAF.out.r2.c1
      have e2 := HAF.out.r2.c2
      have g0 := HAF.out.h.r.c0
      have g1 := HAF.out.h.r.c1
      have g2 := HAF.out.h.r.c2
      have gf := HAF.out.h.r.f
      have HTN := Lib.hid HAF.out.turn
      clear c0 c1 c2 c3 d0 d1 d2 d3 HAF HB3 HBd
      go_wp2
      go_roundw
      case rel => exact ⟨k + 1, v3, _, by have := HE.out; omega, by go_num, by rw [HE.out, HY1.out, show (1 + ((k + 1 : Nat) : Int)) = 1 + (k : Int) + 1 by omega]; exact HTN.out⟩
      case measure => have := HE.out; simp [intOf]; omega
    · obtain rfl : k = len := by omega
      have HFIN := Lib.hid (show setN (List.replicate k 0) 0 zs k = zs by rw [← HE.out]; exact setN_all zs)
      rw [HFIN.out] at HBM
      have HBd := Lib.hid (HBM.out.fresh (Below.refl _ _).drew)
      have c1 := HBM.out.r.c0
      have c2 := HBM.out.r.c1
      have c3 := HBM.out.r.c2
      have d1 := HBd.out.r.c0
      have d2 := HBd.out.r.c1
      have d3 := HBd.out.r.c2
      have t0 := HBd.out.t.c0
      have t1 := HBd.out.t.c1
      have t2 := HBd.out.t.c2
      have tf := HBd.out.t.f
      have s0 := HBM.out.t.c0
      have s1 := HBM.out.t.c1
      have s2 := HBM.out.t.c2
      have sf := HBM.out.t.f
      have HNR := Lib.hid (show rb ≠ w.heap.size by have := HBM.out.l; omega)
      go_wp2
      go_region_held3 (fun w' => w'.cell? ⟨rb, 0, none⟩ = some (.int .i64 (k : Int)) ∧ w'.cell? ⟨rb, 1, none⟩ = some (.slice aq k cq) ∧ w'.cell? ⟨rb, 2, none⟩ = some (.int .i64 (1 + (k : Int)))) (first | with_reducible exact ⟨c1, c2, c3⟩ | with_reducible exact ⟨d1, d2, d3⟩ | with_reducible exact ⟨other3d HNR.out c1 _ _ _, other3d HNR.out c2 _ _ _, other3d HNR.out c3 _ _ _⟩) (fail)
      all_goals
        go_wp2
        have ne := own_ne_boxed HBM.out.o HBM.out.t
        have Z := ((HBM.out.t.set0 (.int .i64 (k : Int))).set1 (.slice aq k cq)).set2 (.int .i64 (1 + (k : Int)))
        have Zd : Boxed (((wr.setCell ⟨w.heap.size, 0, none⟩ (.int .i64 (k : Int))).setCell ⟨w.heap.size, 1, none⟩ (.slice aq k cq)).setCell ⟨w.heap.size, 2, none⟩ (.int .i64 (1 + (k : Int)))).drew w.heap.size (.int .i64 (k : Int)) (.slice aq k cq) (.int .i64 (1 + (k : Int))) := Z
        have hM := HBM.out.m
        have hp : w.heap.size ≠ p := by
          rintro e
          have e1 := hM.block
          have e2 := HBM.out.t
          unfold Boxed at e2
          rw [← e, e2] at e1
          simp at e1
        have hv := own_ne_boxed hM.own HBM.out.t
        refine bodyPost_ret (v := .tuple #[.pointer (some ⟨p, 0, none⟩), .agg #[.int .i64 (k : Int), .slice aq k cq, .int .i64 (1 + (k : Int))]]) (by simp [results, Try.results15, go_sem, Zd.c0, Zd.c1, Zd.c2]) rfl ⟨p, .slice aq k cq, v, by rw [HE.out], ?_, ?_, HBM.out.n, ?_⟩
        · rw [HE.out]
          exact (((hM.setOther (q := ⟨w.heap.size, 0, none⟩) hp hv _).setOther (q := ⟨w.heap.size, 1, none⟩) hp hv _).setOther (q := ⟨w.heap.size, 2, none⟩) hp hv _).drew
        · exact ownsRow_setCell_other (ownsRow_setCell_other (ownsRow_setCell_other HBM.out.o ne _) ne _) ne _
        · exact (((HBM.out.b.setCell (Nat.le_refl _) _).setCell (Nat.le_refl _) _).setCell (Nat.le_refl _) _).drew

end Go.Proofs.Ytfnjbbokbdddpaa.M2
