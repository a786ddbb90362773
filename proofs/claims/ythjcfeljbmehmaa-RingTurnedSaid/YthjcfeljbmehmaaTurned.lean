/-
  What reaperlaw05.turned makes of an operation; what an operation at the other end does to the items the other way round. Conditions: a kind of 1 to 5.
-/
import Derived.Test.YthjcfeljbmehmaaTurnsWalk
namespace Go.Proofs.Ythjcfeljbmehmaa
open Go.RowKit

/-- The kind at the other end. -/
def turnK (k : Int) : Int := if k = 1 then 2 else if k = 2 then 1 else if k = 3 then 4 else if k = 4 then 3 else k
theorem turn_do (n : Int) (zs : List Int) (k x : Int) : dqL n zs.reverse (turnK k) x = (dqL n zs k x).reverse ∧ dqC n zs.reverse (turnK k) = dqC n zs k ∧ dqV zs.reverse (turnK k) = dqV zs k := by
  by_cases h1 : k = 1
  · subst h1
    by_cases h : (zs.length : Int) < n <;> simp [dqL, dqC, dqV, turnK, h]
  by_cases h2 : k = 2
  · subst h2
    by_cases h : (zs.length : Int) < n <;> simp [dqL, dqC, dqV, turnK, h]
  by_cases h3 : k = 3
  · subst h3
    by_cases h : zs = []
    · subst h; simp [dqL, dqC, dqV, turnK]
    · refine ⟨by simp [dqL, turnK], by simp [dqC, turnK, h], ?_⟩
      cases zs with
      | nil => exact absurd rfl h
      | cons z zs => simp [dqV, turnK]
  by_cases h4 : k = 4
  · subst h4
    by_cases h : zs = []
    · subst h; simp [dqL, dqC, dqV, turnK]
    · refine ⟨by simp [dqL, turnK], by simp [dqC, turnK, h], ?_⟩
      obtain ⟨ys, y, rfl⟩ := (List.eq_nil_or_concat zs).resolve_left h
      simp [dqV, turnK]
  have ht : turnK k = k := by simp [turnK, h1, h2, h3, h4]
  rw [ht]
  simp [dqL, dqC, dqV, h1, h2, h3, h4]

set_option maxHeartbeats 1600000 in
theorem turned1 (w : World) (x : Int) : Calls Try.prog 15 #[.agg #[.int .u8 1, .int .i32 x]] w fun e w' => e = .returned (.agg #[.int .u8 2, .int .i32 x]) ∧ Below w.heap.size w w' := by
  go_enter Try.func15, Try.ntmps15
  go_wp2
  exact bodyPost_ret (v := .agg #[.int .u8 2, .int .i32 x]) (by simp [results, Try.results15, go_sem]) rfl ⟨rfl, by exact (((Below.refl _ _).alloc (Nat.le_refl _) _).alloc (by simp) _).alloc (by simp; omega) _⟩

set_option maxHeartbeats 1600000 in
theorem turned2 (w : World) (x : Int) : Calls Try.prog 15 #[.agg #[.int .u8 2, .int .i32 x]] w fun e w' => e = .returned (.agg #[.int .u8 1, .int .i32 x]) ∧ Below w.heap.size w w' := by
  go_enter Try.func15, Try.ntmps15
  go_wp2
  exact bodyPost_ret (v := .agg #[.int .u8 1, .int .i32 x]) (by simp [results, Try.results15, go_sem]) rfl ⟨rfl, by exact (((Below.refl _ _).alloc (Nat.le_refl _) _).alloc (by simp) _).alloc (by simp; omega) _⟩

set_option maxHeartbeats 1600000 in
theorem turned3 (w : World) (x : Int) : Calls Try.prog 15 #[.agg #[.int .u8 3, .int .i32 x]] w fun e w' => e = .returned (.agg #[.int .u8 4, .int .i32 x]) ∧ Below w.heap.size w w' := by
  go_enter Try.func15, Try.ntmps15
  go_wp2
  exact bodyPost_ret (v := .agg #[.int .u8 4, .int .i32 x]) (by simp [results, Try.results15, go_sem]) rfl ⟨rfl, by exact (((Below.refl _ _).alloc (Nat.le_refl _) _).alloc (by simp) _).alloc (by simp; omega) _⟩

set_option maxHeartbeats 1600000 in
theorem turned4 (w : World) (x : Int) : Calls Try.prog 15 #[.agg #[.int .u8 4, .int .i32 x]] w fun e w' => e = .returned (.agg #[.int .u8 3, .int .i32 x]) ∧ Below w.heap.size w w' := by
  go_enter Try.func15, Try.ntmps15
  go_wp2
  exact bodyPost_ret (v := .agg #[.int .u8 3, .int .i32 x]) (by simp [results, Try.results15, go_sem]) rfl ⟨rfl, by exact (((Below.refl _ _).alloc (Nat.le_refl _) _).alloc (by simp) _).alloc (by simp; omega) _⟩

set_option maxHeartbeats 1600000 in
theorem turned5 (w : World) (x : Int) : Calls Try.prog 15 #[.agg #[.int .u8 5, .int .i32 x]] w fun e w' => e = .returned (.agg #[.int .u8 5, .int .i32 x]) ∧ Below w.heap.size w w' := by
  go_enter Try.func15, Try.ntmps15
  go_wp2
  exact bodyPost_ret (v := .agg #[.int .u8 5, .int .i32 x]) (by simp [results, Try.results15, go_sem]) rfl ⟨rfl, by exact (((Below.refl _ _).alloc (Nat.le_refl _) _).alloc (by simp) _).alloc (by simp; omega) _⟩

theorem turnedAny (w : World) (k x : Int) (h1 : 1 ≤ k) (h5 : k ≤ 5) : Calls Try.prog 15 #[.agg #[.int .u8 k, .int .i32 x]] w fun e w' => e = .returned (.agg #[.int .u8 (turnK k), .int .i32 x]) ∧ Below w.heap.size w w' := by
  rcases (show k = 1 ∨ k = 2 ∨ k = 3 ∨ k = 4 ∨ k = 5 by omega) with rfl | rfl | rfl | rfl | rfl
  · exact turned1 w x
  · exact turned2 w x
  · exact turned3 w x
  · exact turned4 w x
  · exact turned5 w x

end Go.Proofs.Ythjcfeljbmehmaa
