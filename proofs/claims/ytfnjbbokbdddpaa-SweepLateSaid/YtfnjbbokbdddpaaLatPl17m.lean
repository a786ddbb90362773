/-
  Who asks while he is looked at stays; who asks once he is closed finds it so, in plain numbers. Conditions: none.
-/
import Derived.Test.YtfnjbbokbdddpaaG0817
import Derived.Test.YtfnjbbokbdddpaaG0517
namespace Go.Proofs.Ytfnjbbokbdddpaa.M2
open Go.RowKit

set_option maxRecDepth 100000 in
set_option maxHeartbeats 1600000 in
theorem refPlace0 (w : World) (ao : Option Addr) (n cap : Nat) (xs : List Int) (h : Reads .i64 w ao n xs) (hn : 0 < n) (v : Int) (hv : xs.getD 0 0 = v) :
    Calls Try.prog 19 #[.slice ao n cap, .int .i64 v] w fun e w' => e = .returned (.int .i64 0) ∧ Below w.heap.size w w' := by
  obtain ⟨b, o, rfl, l1, hc⟩ := h.2 hn
  have c0 := hc 0 hn
  rw [hv, Nat.add_zero] at c0
  have hni : (0 : Int) < (n : Int) := by omega
  clear h hc hv
  go_enter Try.func19, Try.ntmps19
  go_wp2
  go_loopw [5] (fun i wr => i = .int .i64 0 ∧ Hid (w = wr)) (fun _ _ => 0)
  case atStart => exact ⟨rfl, rfl⟩
  case round =>
    obtain ⟨rfl, hw⟩ := hrel
    have hw : w = wr := hw
    subst hw
    go_wp2
    go_ret
    exact ⟨rfl, Below.refl _ _⟩

def LTh (a b : Nat) (t : Th) : Nat → Th
  | 0 => t
  | 1 => { t with lk := (a : Int), pv := (a : Int), pc := 41 }
  | 2 => { t with lk := (b : Int), cu := (b : Int), pv := (a : Int), pc := 42 }
  | 3 => { t with lk := 1, cu := (b : Int), pv := (a : Int), pc := 43 }
  | _ => { t with lk := 0, cu := (b : Int), pv := (a : Int), pc := 44 }

section
variable {n : Nat} {os : List Nat} {Y : List Int} {t : Th}

theorem late4 (hk : Ok n os Y) (hn : n ≤ 100) (h2 : 2 ≤ os.length) (ha : Y.getD (os.getD 1 0 + 1) 0 = 1) (hg : Y.getD (os.getD 1 0 + 2) 0 = 0) (hp : t.pc = 40) (hs : t.ps = 50) :
    Rw 10 t Y 1 (LTh (os.getD 0 0) (os.getD 1 0) t 1) Y ∧ Rw 10 t Y 2 (LTh (os.getD 0 0) (os.getD 1 0) t 2) Y ∧ Rw 10 t Y 3 (LTh (os.getD 0 0) (os.getD 1 0) t 3) Y ∧ Rw 10 t Y 4 (LTh (os.getD 0 0) (os.getD 1 0) t 4) Y := by
  obtain ⟨j, hj, e⟩ := hk.os.at (t := 0) (by omega)
  obtain ⟨r, hr, er⟩ := hk.os.at (t := 1) (by omega)
  have hl := hk.len
  have hs0 := hk.st 0 (by omega)
  unfold vAt at hs0
  rw [if_pos rfl] at hs0
  have e40 := swt40 10 t Y hp
  rw [show ((1 : Int)) = ((1 : Nat) : Int) from rfl, ld_at (by omega), hs0, if_neg (by omega)] at e40
  have r1 := (Rw.refl (ag := 10) (t := t) (zs := Y)).step (by omega) e40
  have r2 := r1.trans (passNext (ag := 10) (i := 0) hn hk (by omega) (t := { t with lk := ((os.getD 0 0 : Nat) : Int), pv := ((os.getD 0 0 : Nat) : Int), pc := 41 }) rfl rfl)
  rw [Nat.zero_add] at r1
  simp only [Nat.zero_add] at r2
  generalize os.getD 1 0 = q at *
  generalize os.getD 0 0 = a at *
  have a1 : ad ((q : Nat) : Int) 1 = ((q + 1 : Nat) : Int) := ad_at (i := 1) (by omega)
  have a2 : ad ((q : Nat) : Int) 2 = ((q + 2 : Nat) : Int) := ad_at (i := 2) (by omega)
  have e42 := swt42 10 { t with lk := (q : Int), cu := (q : Int), pv := (a : Int), pc := 42 } Y rfl
  dsimp only at e42
  rw [a1, ld_at (by omega), ha, show ((1 : Int) == 1) = true from rfl] at e42
  have r3 := r2.step (by show (40 : Int) ≤ 42 ∧ (42 : Int) ≤ 48; omega) e42
  simp only [tkT, if_true] at r3
  have e43 := swt43 10 { t with lk := 1, cu := (q : Int), pv := (a : Int), pc := 43 } Y rfl
  dsimp only at e43
  have hd : decide ((10 : Int) < wrap64 (t.ps - Y.getD (q + 2) 0)) = true := by
    rw [hs, hg]
    exact decide_eq_true (by rw [show wrap64 (50 - 0) = 50 by rw [← IntWalk.i64_left]; exact IntWalk.i64_in _ (by omega)]; omega)
  rw [a2, ld_at (by omega), hd, hg] at e43
  have r4 := r3.step (by show (40 : Int) ≤ 43 ∧ (43 : Int) ≤ 48; omega) e43
  simp only [tkT, if_true] at r4
  exact ⟨r1, r2, r3, r4⟩

theorem late6 (hk : Ok n os Y) (hn : n ≤ 100) (h2 : 2 ≤ os.length) (ha : Y.getD (os.getD 1 0 + 1) 0 = 1) (hg : Y.getD (os.getD 1 0 + 2) 0 = 0) (hq : Y.getD (os.getD 1 0) 0 = 0) (hp : t.pc = 40) (hs : t.ps = 50) :
    ∃ t5 t6, Rw 10 t Y 5 t5 (Y.set (os.getD 1 0) (-1)) ∧ Rw 10 t Y 6 t6 (Y.set (os.getD 1 0) (-1)) ∧ swB t5 = true ∧ swB t6 = true := by
  obtain ⟨_, _, _, r4⟩ := late4 hk hn h2 ha hg hp hs
  obtain ⟨r, hr, er⟩ := hk.os.at (t := 1) (by omega)
  have hl := hk.len
  generalize os.getD 1 0 = q at *
  generalize os.getD 0 0 = a at *
  have a0 : ad ((q : Nat) : Int) 0 = ((q : Nat) : Int) := ad_at (i := 0) (by omega)
  have r4 : Rw 10 t Y 4 { t with lk := 0, cu := (q : Int), pv := (a : Int), pc := 44 } Y := r4
  have e44 := swt44 10 { t with lk := 0, cu := (q : Int), pv := (a : Int), pc := 44 } Y rfl
  dsimp only at e44
  rw [a0, swb_at (by omega) hq, swp_at (by omega) hq] at e44
  have r5 := r4.step (by show (40 : Int) ≤ 44 ∧ (44 : Int) ≤ 48; omega) e44
  simp only [tkT, if_true] at r5
  have e45 := swt45 10 { t with lk := 0, cu := (q : Int), pv := (a : Int), pc := 45 } (Y.set q (-1)) rfl
  have r6 := r5.step (by show (40 : Int) ≤ 45 ∧ (45 : Int) ≤ 48; omega) e45
  exact ⟨_, _, r5, r6, rfl, rfl⟩

def lateZ (Z : List Int) (b H : Nat) (w : Int) : List Int := if H ≤ 4 then Z.set b w else Z

theorem late_ok (hk : Ok n os Y) (h2 : 2 ≤ os.length) (H : Nat) (w : Int) : Ok n os (lateZ Y (os.getD 1 0) H w) := by
  unfold lateZ
  split
  · exact hk.reqSet (by omega) w
  · exact hk

theorem lateAll (hk : Ok n os Y) (hn : n ≤ 100) (h2 : 2 ≤ os.length) (ha : Y.getD (os.getD 1 0 + 1) 0 = 1) (hg : Y.getD (os.getD 1 0 + 2) 0 = 0) (hq : Y.getD (os.getD 1 0) 0 = 0) (hp : t.pc = 40) (hs : t.ps = 50) {H : Nat} (h0 : 1 ≤ H) (h6 : H ≤ 6) (w : Int) :
    swb (stN 10 H t Y).2 ((os.getD 1 0 : Nat) : Int) 0 = decide (H ≤ 4) ∧ swp (stN 10 H t Y).2 ((os.getD 1 0 : Nat) : Int) 0 w = (stN 10 H t (lateZ Y (os.getD 1 0) H w)).2 ∧
    (∀ k, k ≤ H → (stN 10 k t Y).1 = (stN 10 k t (lateZ Y (os.getD 1 0) H w)).1) ∧ (∀ k, k ≤ H → swB (stN 10 k t Y).1 = true) := by
  obtain ⟨r1, r2, r3, r4⟩ := late4 hk hn h2 ha hg hp hs
  obtain ⟨r, hr, er⟩ := hk.os.at (t := 1) (by omega)
  have hl := hk.len
  have hT0 : swB t = true := by unfold swB; rw [hp]; rfl
  by_cases h4 : H ≤ 4
  · have hz : lateZ Y (os.getD 1 0) H w = Y.set (os.getD 1 0) w := if_pos h4
    have hk2 := hk.reqSet (k := 1) (by omega) w
    obtain ⟨s1, s2, s3, s4⟩ := late4 hk2 hn h2 (by rw [getD_set, if_neg (by omega)]; exact ha) (by rw [getD_set, if_neg (by omega)]; exact hg) hp hs
    rw [hz]
    have key : ∀ k, k ≤ 4 → stN 10 k t Y = (LTh (os.getD 0 0) (os.getD 1 0) t k, Y) ∧ stN 10 k t (Y.set (os.getD 1 0) w) = (LTh (os.getD 0 0) (os.getD 1 0) t k, Y.set (os.getD 1 0) w) := by
      intro k hk4
      rcases (show k = 0 ∨ k = 1 ∨ k = 2 ∨ k = 3 ∨ k = 4 by omega) with e | e | e | e | e <;> subst e
      · exact ⟨rfl, rfl⟩
      · exact ⟨r1.e, s1.e⟩
      · exact ⟨r2.e, s2.e⟩
      · exact ⟨r3.e, s3.e⟩
      · exact ⟨r4.e, s4.e⟩
    obtain ⟨k1, k2⟩ := key H h4
    rw [k1, k2]
    dsimp only
    refine ⟨by rw [decide_eq_true h4]; exact swb_at (by omega) hq, swp_at (by omega) hq, fun k hk4 => ?_, fun k hk4 => ?_⟩
    · obtain ⟨k1, k2⟩ := key k (by omega)
      rw [k1, k2]
    · obtain ⟨k1, k2⟩ := key k (by omega)
      rw [k1]
      rcases (show k = 0 ∨ k = 1 ∨ k = 2 ∨ k = 3 ∨ k = 4 by omega) with e | e | e | e | e <;> subst e
      · exact hT0
      all_goals rfl
  · have hz : lateZ Y (os.getD 1 0) H w = Y := if_neg h4
    obtain ⟨t5, t6, r5, r6, b5, b6⟩ := late6 hk hn h2 ha hg hq hp hs
    rw [hz]
    have hne : (Y.set (os.getD 1 0) (-1)).getD (os.getD 1 0) 0 ≠ 0 := by rw [getD_set, if_pos ⟨rfl, by omega⟩]; decide
    have h2' : (stN 10 H t Y).2 = Y.set (os.getD 1 0) (-1) := by
      rcases (show H = 5 ∨ H = 6 by omega) with e | e <;> subst e
      · rw [r5.e]
      · rw [r6.e]
    rw [h2']
    refine ⟨by rw [decide_eq_false h4]; exact swb_no hne, swp_no hne, fun _ _ => rfl, fun k hk6 => ?_⟩
    rcases (show k = 0 ∨ k = 1 ∨ k = 2 ∨ k = 3 ∨ k = 4 ∨ k = 5 ∨ k = 6 by omega) with e | e | e | e | e | e | e <;> subst e
    · exact hT0
    · rw [r1.e]; rfl
    · rw [r2.e]; rfl
    · rw [r3.e]; rfl
    · rw [r4.e]; rfl
    · rw [r5.e]; exact b5
    · rw [r6.e]; exact b6

theorem late_in (hk : Ok n os Y) (h2 : 2 ≤ os.length) (ha : Y.getD (os.getD 1 0 + 1) 0 = 1) (hg : Y.getD (os.getD 1 0 + 2) 0 = 0) (hq : Y.getD (os.getD 1 0) 0 = 0) {H : Nat} {w : Int} (hw : 0 < w) :
    (os.getD 1 0 ∈ swP 10 50 (lateZ Y (os.getD 1 0) H w) os 0 ↔ H ≤ 4) ∧ 0 < (swP 10 50 (lateZ Y (os.getD 1 0) H w) os 0).length ∧ (swP 10 50 (lateZ Y (os.getD 1 0) H w) os 0).getD 0 0 = os.getD 0 0 := by
  obtain ⟨r, hr, er⟩ := hk.os.at (t := 1) (by omega)
  have hl := hk.len
  have hne := hk.os.ne (s := 0) (t := 1) (by omega) (by omega) (by omega)
  obtain ⟨a, b, rest, rfl⟩ : ∃ a b rest, os = a :: b :: rest := by
    cases os with
    | nil => simp at h2
    | cons a os => cases os with
      | nil => simp at h2
      | cons b rest => exact ⟨a, b, rest, rfl⟩
  simp only [List.getD_cons_succ, List.getD_cons_zero] at *
  have hnod := hk.os.nod
  have hb : b ∉ rest := by have := (List.nodup_cons.1 hnod).2; exact (List.nodup_cons.1 this).1
  have ho : swO 10 50 (lateZ Y b H w) b = !decide (H ≤ 4) := by
    unfold swO oldB lateZ
    by_cases h4 : H ≤ 4
    · rw [if_pos h4, decide_eq_true h4, show (Y.set b w).getD b 0 = w by rw [getD_set, if_pos ⟨rfl, by omega⟩], decide_eq_false (show ¬ w = 0 by omega)]
      simp
    · rw [if_neg h4, decide_eq_false h4, ha, hg, hq, show wrap64 (50 - 0) = 50 by rw [← IntWalk.i64_left]; exact IntWalk.i64_in _ (by omega)]
      decide
  refine ⟨?_, ?_, ?_⟩
  · unfold swP
    simp only [Nat.zero_add, List.take_succ_cons, List.take_zero, List.drop_succ_cons, List.drop_zero, List.cons_append, List.nil_append, List.mem_cons, List.mem_filter]
    constructor
    · rintro (h | ⟨_, h⟩)
      · exact absurd h.symm hne
      · rw [ho] at h; simpa using h
    · intro h
      exact .inr ⟨by simp, by rw [ho]; simpa using h⟩
  · unfold swP; simp
  · unfold swP; simp

theorem Ok.ageSet (h : Ok n os Y) {k : Nat} (hk : k < os.length) (x : Int) : Ok n os (Y.set (os.getD k 0 + 2) x) := by
  have hl := h.len
  obtain ⟨q, hq, eq⟩ := h.os.at hk
  have hv : ∀ t, t ≤ os.length → vAt (Y.set (os.getD k 0 + 2) x) os t = vAt Y os t := fun t ht => vAt_set (.inl (by omega)) (fun h0 => by obtain ⟨j, hj, e⟩ := h.os.at (t := t - 1) (by omega); omega)
  refine ⟨by rw [List.length_set]; exact hl, h.os, fun t ht => by rw [hv t ht]; exact h.st t ht, fun t ht => ?_, fun j hj hm => ?_⟩
  · obtain ⟨j, hj, e⟩ := h.os.at ht
    rw [getD_set, if_neg (by omega)]
    exact h.ac t ht
  · rw [getD_set, if_neg (by omega), getD_set, if_neg (by omega)]
    exact h.off j hj hm
end

end Go.Proofs.Ytfnjbbokbdddpaa.M2
