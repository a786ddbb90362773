/-
  The walk of WordAsks: for every operation, answer, int64 and int32 it answers true and leaves all old memory as it was.
-/
import Derived.Test.YtmmnmkcjgadhmaaWordKnown
import Derived.Deep.RegionHeld3
namespace Go.Proofs.Ytmmnmkcjgadhmaa
open Go.RowKit

theorem asksAll (n : Int) (w : World) : Calls Try.prog 9 #[.int .i64 n] w fun e w' => e = .returned (.bool true) ∧ Fresh w w' := by
  by_cases h : 1 ≤ n ∧ n ≤ 1099511627776
  · exact asksYes n h.1 h.2 w
  · exact asksNo n (by omega) w

set_option maxRecDepth 100000 in
set_option maxHeartbeats 4000000 in
theorem asksWalk (k v k' v' a b : Int) (k0 : 0 ≤ k) (k1 : k ≤ 255) (v0 : -2147483648 ≤ v) (v1 : v ≤ 2147483647) (j0 : 0 ≤ k') (j1 : k' ≤ 255) (u0 : -2147483648 ≤ v') (u1 : v' ≤ 2147483647)
    (_ : -9223372036854775808 ≤ a) (_ : a ≤ 9223372036854775807) (_ : -2147483648 ≤ b) (_ : b ≤ 2147483647) (w : World) :
    Calls Try.prog 3 #[.agg #[.int .u8 k, .int .i32 v], .agg #[.int .u8 k', .int .i32 v'], .int .i64 a, .int .i32 b] w fun e w' => e = .returned (.bool true) ∧ Fresh w w' := by
  go_enter Try.func3, Try.ntmps3
  go_wp2_with fail
  generalize hW : (w.alloc (.cells #[.int .u8 k, .int .i32 v] 23)).alloc (.cells #[.int .u8 k', .int .i32 v'] 25) = W
  obtain ⟨c0, c1, c2, c3, F0⟩ := two_cells w _ _ _ _ _ _ W hW
  clear hW
  go_region_held3 (fun w' => w'.cell? ⟨w.heap.size, 0, none⟩ = some (.int .u8 k) ∧ w'.cell? ⟨w.heap.size, 1, none⟩ = some (.int .i32 v) ∧ w'.cell? ⟨w.heap.size + 1, 0, none⟩ = some (.int .u8 k') ∧ w'.cell? ⟨w.heap.size + 1, 1, none⟩ = some (.int .i32 v') ∧ Fresh w w')
    (first
      | exact ⟨c0, c1, c2, c3, F0⟩
      | exact ⟨c0, c1, c2, c3, F0.drew⟩
      | (go_split_ands; exact ⟨hf.keep (by assumption), hf.keep (by assumption), hf.keep (by assumption), hf.keep (by assumption), Fresh.trans (by assumption) hf⟩))
    (first
      | (go_at_call 8; refine (known _).mono ?_; rintro e w' ⟨rfl, hf⟩)
      | (go_at_call 9; refine (asksAll _ _).mono ?_; rintro e w' ⟨rfl, hf⟩)
      | (go_at_call 10; refine (wordOp _ _ k0 k1 v0 v1 _).mono ?_; rintro e w' ⟨rfl, hf⟩)
      | (go_at_call 11; refine (refOp _ _ k0 k1 v0 v1 _).mono ?_; rintro e w' ⟨rfl, hf⟩)
      | (go_at_call 12; refine (wordRes _ _ j0 j1 u0 u1 _).mono ?_; rintro e w' ⟨rfl, hf⟩)
      | (go_at_call 13; refine (refRes _ _ j0 j1 u0 u1 _).mono ?_; rintro e w' ⟨rfl, hf⟩))
  rename_i hHeld
  have F := Lib.hid hHeld.2.2.2.2
  clear hHeld
  go_wp2
  go_ret
  exact ⟨by simp, F.out⟩

end Go.Proofs.Ytmmnmkcjgadhmaa
