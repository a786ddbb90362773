/-
  What slices.IsSorted tells of numbers, and what heightAt of package skip tells. Conditions: numbers that lie in memory.
-/
import Derived.Test.YtjcdbdhdmalfaaaSkipCopy
namespace Go.Proofs.Ytjcdbdhdmalfaaa
open Go.RowKit

/-- None is less than the one ahead of it, of the first n. -/
def Adj (xs : List Int) : Prop := ∀ k, 0 < k → k < xs.length → xs.getD (k - 1) 0 ≤ xs.getD k 0

def adjB (xs : List Int) : Bool := (List.range xs.length).all fun k => decide (k = 0 ∨ xs.getD (k - 1) 0 ≤ xs.getD k 0)
theorem adjB_iff (xs : List Int) : adjB xs = true ↔ Adj xs := by
  unfold adjB Adj
  simp only [List.all_eq_true, List.mem_range, decide_eq_true_eq]
  exact ⟨fun h k h1 h2 => (h k h2).resolve_left (by omega), fun h k h2 => by
    by_cases e : k = 0
    · exact .inl e
    · exact .inr (h k (by omega) h2)⟩
theorem adjB_no {xs : List Int} (h : ¬ Adj xs) : adjB xs = false := by
  cases e : adjB xs with
  | false => rfl
  | true => exact absurd ((adjB_iff xs).1 e) h

theorem nanAny (w : World) (x : Int) : Calls Try.prog 44 #[.int .i32 x] w fun e w' => e = .returned (.bool false) ∧ w = w' := by
  go_enter Try.func44, Try.ntmps44
  go_wp2
  go_ret
  exact ⟨rfl, rfl⟩

theorem lessAny (w : World) (x y : Int) : Calls Try.prog 42 #[.int .i32 x, .int .i32 y] w fun e w' => e = .returned (.bool (decide (x < y))) ∧ w' = w := by
  go_enter Try.func42, Try.ntmps42
  go_wp2_with (go_at_call 44; refine (nanAny _ _).mono ?_; rintro e w' ⟨rfl, rfl⟩)
  go_ret
  exact ⟨rfl, rfl⟩

theorem heightIn (w : World) (ao : Option Addr) (n cap k : Nat) (hs : List Int) (h : Reads .i64 w ao n hs) :
    Calls Try.prog 32 #[.slice ao n cap, .int .i64 k] w fun e w' => e = .returned (.int .i64 (hs.getD k 1)) ∧ w' = w := by
  have hl := h.1
  by_cases hk : k < n
  · obtain ⟨b, off, rfl, hb, hc⟩ := h.2 (by omega)
    have c := hc k hk
    rw [show hs.getD k 0 = hs.getD k 1 by simp [List.getD, show k < hs.length by omega]] at c
    have k0 : (0 : Int) ≤ (k : Int) := by omega
    have hd : ¬ (n : Int) ≤ k := by omega
    clear h hc
    generalize hs.getD k 1 = y at *
    go_enter Try.func32, Try.ntmps32
    go_wp2
    go_ret
    exact ⟨rfl, rfl⟩
  · rw [show hs.getD k 1 = 1 by simp [List.getD, show hs.length ≤ k by omega]]
    have hd : ¬ (k : Int) < n := by omega
    clear h
    go_enter Try.func32, Try.ntmps32
    go_wp2
    go_ret
    exact ⟨rfl, rfl⟩

/-- From number i on none is less than the one ahead of it. -/
def AdjFrom (xs : List Int) (i : Nat) : Prop := ∀ k, i < k → k < xs.length → xs.getD (k - 1) 0 ≤ xs.getD k 0

theorem Reads.drewN {k : IntKind} {w : World} {ao : Option Addr} {len : Nat} {zs : List Int} (h : Reads k w ao len zs) (q : Nat) : Reads k (w.drewN q) ao len zs := h

set_option maxRecDepth 100000 in
set_option maxHeartbeats 2000000 in
theorem sortedAny (w : World) (ao : Option Addr) (n cap : Nat) (xs : List Int) (h : Reads .i32 w ao n xs) (hn : n ≤ 1000000) :
    Calls Try.prog 31 #[.slice ao n cap] w fun e w' => e = .returned (.bool (adjB xs)) ∧ ∃ q, w' = w.drewN q := by
  have hl := h.1
  by_cases h0 : n = 0
  · have HE := Lib.hid (show adjB xs = true from (adjB_iff xs).2 (fun k h1 h2 => by omega))
    subst h0
    clear h
    go_enter Try.func31, Try.ntmps31
    go_wp2
    go_loopw [3] (fun i wr => i = .int .i64 (-1) ∧ wr = w) (fun _ _ => 0)
    case atStart => exact ⟨rfl, rfl⟩
    case round =>
      obtain ⟨rfl, rfl⟩ := hrel
      go_wp2
      go_ret
      rw [HE.out]
      exact ⟨rfl, 0, rfl⟩
  · obtain ⟨b, off, rfl, hb, hc⟩ := h.2 (by omega)
    have HC := Lib.hid hc
    have HL := Lib.hid hl
    have HS := Lib.hid (show AdjFrom xs (n - 1) from fun k h1 h2 => by omega)
    obtain ⟨m, rfl⟩ : ∃ m, n = m + 1 := ⟨n - 1, by omega⟩
    clear h hc hl h0
    go_enter Try.func31, Try.ntmps31
    go_wp2
    go_loopw [3] (fun i wr => ∃ j : Nat, j ≤ m ∧ i = .int .i64 j ∧ AdjFrom xs j ∧ ∃ q, wr = w.drewN q) (fun i _ => (intOf i).toNat)
    case atStart => exact ⟨m, Nat.le_refl _, by simp, HS.out, 0, rfl⟩
    case round =>
      obtain ⟨j, hj, rfl, ha, q, rfl⟩ := hrel
      clear HS
      by_cases hp : 0 < j
      · have cj : (w.drewN q).cell? ⟨b, off + j, none⟩ = some (.int .i32 (xs.getD j 0)) := HC.out j (by omega)
        have ci : (w.drewN q).cell? ⟨b, off + (j - 1), none⟩ = some (.int .i32 (xs.getD (j - 1) 0)) := HC.out (j - 1) (by omega)
        have HA := Lib.hid ha
        have HD : Hid ((xs.getD j 0 < xs.getD (j - 1) 0 → adjB xs = false) ∧ (¬ xs.getD j 0 < xs.getD (j - 1) 0 → AdjFrom xs (j - 1))) := Lib.hid ⟨fun h => adjB_no (fun h2 => by have := h2 j hp (by rw [HL.out]; omega); omega), fun h k h1 h2 => by
          by_cases e : k = j
          · subst e; omega
          · exact ha k (by omega) h2⟩
        obtain ⟨i, hi⟩ : ∃ i, i = j - 1 := ⟨_, rfl⟩
        rw [← hi] at ci HD
        have e1 : ((j : Int) - 1) = (i : Int) := by omega
        have e2 : IntKind.i64.wrap ((j : Int) - 1) = (i : Int) := by rw [IntKind.wrap_i64]; omega
        have j0 : (0 : Int) ≤ (j : Int) := by omega
        have i0 : (0 : Int) ≤ (i : Int) := by omega
        have jm : (j : Int) < (m : Int) + 1 := by omega
        have im : (i : Int) < (m : Int) + 1 := by omega
        have HI := Lib.hid hi
        clear ha hi
        obtain ⟨W, hW⟩ : ∃ W, w.drewN q = W := ⟨_, rfl⟩
        rw [hW] at cj ci ⊢
        have HW := Lib.hid hW
        clear hW
        by_cases hlt : xs.getD j 0 < xs.getD (j - 1) 0
        · rw [← HI.out] at hlt
          have HE := Lib.hid (HD.out.1 hlt)
          clear HD
          generalize xs.getD j 0 = y at *
          generalize xs.getD i 0 = z at *
          go_wp2
          go_quiet ((go_at_call 42; exact Calls.quiet_of_same (lessAny _ _ _)))
          go_wp2
          go_ret
          rw [HE.out]
          exact ⟨rfl, q + nq, by rw [← HW.out]; exact World.drewN_drewN _ _ _⟩
        · rw [← HI.out] at hlt
          have HE := Lib.hid (HD.out.2 hlt)
          clear HD
          generalize xs.getD j 0 = y at *
          generalize xs.getD i 0 = z at *
          go_wp2
          go_quiet ((go_at_call 42; exact Calls.quiet_of_same (lessAny _ _ _)))
          go_wp2
          go_roundw
          case rel => exact ⟨i, by have := HI.out; omega, rfl, HE.out, q + nq, by rw [← HW.out]; exact World.drewN_drewN _ _ _⟩
          case measure => have := HI.out; simp [intOf]; omega
      · obtain rfl : j = 0 := by omega
        have HE := Lib.hid (show adjB xs = true from (adjB_iff xs).2 (fun k h1 h2 => ha k h1 h2))
        clear ha
        go_wp2
        go_ret
        rw [HE.out]
        exact ⟨rfl, q, rfl⟩

end Go.Proofs.Ytjcdbdhdmalfaaa
