/-
  The walk of WordParts: for every operation it answers true and leaves all old memory as it was.
-/
import Derived.Test.YtmmnmkcjgadhmaaWordKnown
import Derived.Deep.RegionHeld3
namespace Go.Proofs.Ytmmnmkcjgadhmaa
open Go.RowKit

theorem three_cells (w : World) (a b c d e f : Value) (t : TypeId) : ∀ W, ((w.alloc (.cells #[a, b] t)).alloc (.cells #[c, d] t)).alloc (.cells #[e, f] t) = W →
    W.cell? ⟨w.heap.size, 0, none⟩ = some a ∧ W.cell? ⟨w.heap.size, 1, none⟩ = some b ∧ W.cell? ⟨w.heap.size + 1, 0, none⟩ = some c ∧ W.cell? ⟨w.heap.size + 1, 1, none⟩ = some d ∧
    W.cell? ⟨w.heap.size + 1 + 1, 0, none⟩ = some e ∧ W.cell? ⟨w.heap.size + 1 + 1, 1, none⟩ = some f ∧ Fresh w W := by
  rintro W rfl
  refine ⟨?_, ?_, ?_, ?_, ?_, ?_, (((Fresh.refl w).alloc _ _).alloc _ _).alloc _ _⟩
  all_goals go_simp

set_option maxRecDepth 100000 in
set_option maxHeartbeats 4000000 in
theorem partsWalk (k v : Int) (k0 : 0 ≤ k) (k1 : k ≤ 255) (v0 : -2147483648 ≤ v) (v1 : v ≤ 2147483647) (w : World) :
    Calls Try.prog 6 #[.agg #[.int .u8 k, .int .i32 v]] w fun e w' => e = .returned (.bool true) ∧ Fresh w w' := by
  by_cases hv : v < 2147483647
  · by_cases hk : k < 255
    · skip
      go_enter Try.func6, Try.ntmps6
      go_wp2_with fail
      generalize hW : ((w.alloc (.cells #[.int .u8 k, .int .i32 v] 23)).alloc (.cells #[.int .u8 k, .int .i32 (v + 1)] 23)).alloc (.cells #[.int .u8 (k + 1), .int .i32 v] 23) = W
      obtain ⟨c0, c1, c2, c3, c4, c5, F0⟩  := three_cells w _ _ _ _ _ _ _ W hW
      clear hW
      have m1 := wd_bd k0 k1 v0 v1
      have m2 := wd_bd (k := k) (v := (v + 1)) k0 k1 (by omega) (by omega)
      have m3 := wd_bd (k := (k + 1)) (v := v) (by omega) (by omega) v0 v1
      have t1 : IntKind.i64.wrap (wd k (v + 1) - wd k v) = 256 := by rw [IntWalk.i64_in _ (by omega)]; unfold wd; omega
      have t2 : IntKind.i64.wrap (wd (k + 1) v - wd k v) = 1 := by rw [IntWalk.i64_in _ (by omega)]; unfold wd; omega
      go_region_held3 (fun w' => w'.cell? ⟨w.heap.size, 0, none⟩ = some (.int .u8 k) ∧ w'.cell? ⟨w.heap.size, 1, none⟩ = some (.int .i32 v) ∧ w'.cell? ⟨w.heap.size + 1, 0, none⟩ = some (.int .u8 k) ∧ w'.cell? ⟨w.heap.size + 1, 1, none⟩ = some (.int .i32 (v + 1)) ∧ w'.cell? ⟨w.heap.size + 1 + 1, 0, none⟩ = some (.int .u8 (k + 1)) ∧ w'.cell? ⟨w.heap.size + 1 + 1, 1, none⟩ = some (.int .i32 v) ∧ Fresh w w')
        (first
          | exact ⟨c0, c1, c2, c3, c4, c5, F0⟩
          | exact ⟨c0, c1, c2, c3, c4, c5, F0.drew⟩
          | (go_split_ands; exact ⟨hf.keep (by assumption), hf.keep (by assumption), hf.keep (by assumption), hf.keep (by assumption), hf.keep (by assumption), hf.keep (by assumption), Fresh.trans (by assumption) hf⟩))
        (first
          | (go_at_call 8; refine (known _).mono ?_; rintro e w' ⟨rfl, hf⟩)
          | (go_at_call 10; refine (wordOp _ _ (by omega) (by omega) (by omega) (by omega) _).mono ?_; rintro e w' ⟨rfl, hf⟩))
      rename_i hHeld
      have F := Lib.hid hHeld.2.2.2.2.2.2
      clear hHeld
      go_wp2
      go_ret
      exact ⟨rfl, F.out⟩
    · skip
      go_enter Try.func6, Try.ntmps6
      go_wp2_with fail
      generalize hW : ((w.alloc (.cells #[.int .u8 k, .int .i32 v] 23)).alloc (.cells #[.int .u8 k, .int .i32 (v + 1)] 23)).alloc (.cells #[.int .u8 k, .int .i32 v] 23) = W
      obtain ⟨c0, c1, c2, c3, c4, c5, F0⟩  := three_cells w _ _ _ _ _ _ _ W hW
      clear hW
      have m1 := wd_bd k0 k1 v0 v1
      have m2 := wd_bd (k := k) (v := (v + 1)) k0 k1 (by omega) (by omega)
      have m3 := wd_bd (k := k) (v := v) (by omega) (by omega) v0 v1
      have t1 : IntKind.i64.wrap (wd k (v + 1) - wd k v) = 256 := by rw [IntWalk.i64_in _ (by omega)]; unfold wd; omega
      have t2 : IntKind.i64.wrap (wd k v - wd k v) = 0 := by rw [IntWalk.i64_in _ (by omega)]; unfold wd; omega
      go_region_held3 (fun w' => w'.cell? ⟨w.heap.size, 0, none⟩ = some (.int .u8 k) ∧ w'.cell? ⟨w.heap.size, 1, none⟩ = some (.int .i32 v) ∧ w'.cell? ⟨w.heap.size + 1, 0, none⟩ = some (.int .u8 k) ∧ w'.cell? ⟨w.heap.size + 1, 1, none⟩ = some (.int .i32 (v + 1)) ∧ w'.cell? ⟨w.heap.size + 1 + 1, 0, none⟩ = some (.int .u8 k) ∧ w'.cell? ⟨w.heap.size + 1 + 1, 1, none⟩ = some (.int .i32 v) ∧ Fresh w w')
        (first
          | exact ⟨c0, c1, c2, c3, c4, c5, F0⟩
          | exact ⟨c0, c1, c2, c3, c4, c5, F0.drew⟩
          | (go_split_ands; exact ⟨hf.keep (by assumption), hf.keep (by assumption), hf.keep (by assumption), hf.keep (by assumption), hf.keep (by assumption), hf.keep (by assumption), Fresh.trans (by assumption) hf⟩))
        (first
          | (go_at_call 8; refine (known _).mono ?_; rintro e w' ⟨rfl, hf⟩)
          | (go_at_call 10; refine (wordOp _ _ (by omega) (by omega) (by omega) (by omega) _).mono ?_; rintro e w' ⟨rfl, hf⟩))
      rename_i hHeld
      have F := Lib.hid hHeld.2.2.2.2.2.2
      clear hHeld
      go_wp2
      go_ret
      exact ⟨rfl, F.out⟩
  · by_cases hk : k < 255
    · skip
      go_enter Try.func6, Try.ntmps6
      go_wp2_with fail
      generalize hW : ((w.alloc (.cells #[.int .u8 k, .int .i32 v] 23)).alloc (.cells #[.int .u8 k, .int .i32 v] 23)).alloc (.cells #[.int .u8 (k + 1), .int .i32 v] 23) = W
      obtain ⟨c0, c1, c2, c3, c4, c5, F0⟩  := three_cells w _ _ _ _ _ _ _ W hW
      clear hW
      have m1 := wd_bd k0 k1 v0 v1
      have m2 := wd_bd (k := k) (v := v) k0 k1 (by omega) (by omega)
      have m3 := wd_bd (k := (k + 1)) (v := v) (by omega) (by omega) v0 v1
      have t1 : IntKind.i64.wrap (wd k v - wd k v) = 0 := by rw [IntWalk.i64_in _ (by omega)]; unfold wd; omega
      have t2 : IntKind.i64.wrap (wd (k + 1) v - wd k v) = 1 := by rw [IntWalk.i64_in _ (by omega)]; unfold wd; omega
      go_region_held3 (fun w' => w'.cell? ⟨w.heap.size, 0, none⟩ = some (.int .u8 k) ∧ w'.cell? ⟨w.heap.size, 1, none⟩ = some (.int .i32 v) ∧ w'.cell? ⟨w.heap.size + 1, 0, none⟩ = some (.int .u8 k) ∧ w'.cell? ⟨w.heap.size + 1, 1, none⟩ = some (.int .i32 v) ∧ w'.cell? ⟨w.heap.size + 1 + 1, 0, none⟩ = some (.int .u8 (k + 1)) ∧ w'.cell? ⟨w.heap.size + 1 + 1, 1, none⟩ = some (.int .i32 v) ∧ Fresh w w')
        (first
          | exact ⟨c0, c1, c2, c3, c4, c5, F0⟩
          | exact ⟨c0, c1, c2, c3, c4, c5, F0.drew⟩
          | (go_split_ands; exact ⟨hf.keep (by assumption), hf.keep (by assumption), hf.keep (by assumption), hf.keep (by assumption), hf.keep (by assumption), hf.keep (by assumption), Fresh.trans (by assumption) hf⟩))
        (first
          | (go_at_call 8; refine (known _).mono ?_; rintro e w' ⟨rfl, hf⟩)
          | (go_at_call 10; refine (wordOp _ _ (by omega) (by omega) (by omega) (by omega) _).mono ?_; rintro e w' ⟨rfl, hf⟩))
      rename_i hHeld
      have F := Lib.hid hHeld.2.2.2.2.2.2
      clear hHeld
      go_wp2
      go_ret
      exact ⟨rfl, F.out⟩
    · skip
      go_enter Try.func6, Try.ntmps6
      go_wp2_with fail
      generalize hW : ((w.alloc (.cells #[.int .u8 k, .int .i32 v] 23)).alloc (.cells #[.int .u8 k, .int .i32 v] 23)).alloc (.cells #[.int .u8 k, .int .i32 v] 23) = W
      obtain ⟨c0, c1, c2, c3, c4, c5, F0⟩  := three_cells w _ _ _ _ _ _ _ W hW
      clear hW
      have m1 := wd_bd k0 k1 v0 v1
      have m2 := wd_bd (k := k) (v := v) k0 k1 (by omega) (by omega)
      have m3 := wd_bd (k := k) (v := v) (by omega) (by omega) v0 v1
      have t1 : IntKind.i64.wrap (wd k v - wd k v) = 0 := by rw [IntWalk.i64_in _ (by omega)]; unfold wd; omega
      have t2 : IntKind.i64.wrap (wd k v - wd k v) = 0 := by rw [IntWalk.i64_in _ (by omega)]; unfold wd; omega
      go_region_held3 (fun w' => w'.cell? ⟨w.heap.size, 0, none⟩ = some (.int .u8 k) ∧ w'.cell? ⟨w.heap.size, 1, none⟩ = some (.int .i32 v) ∧ w'.cell? ⟨w.heap.size + 1, 0, none⟩ = some (.int .u8 k) ∧ w'.cell? ⟨w.heap.size + 1, 1, none⟩ = some (.int .i32 v) ∧ w'.cell? ⟨w.heap.size + 1 + 1, 0, none⟩ = some (.int .u8 k) ∧ w'.cell? ⟨w.heap.size + 1 + 1, 1, none⟩ = some (.int .i32 v) ∧ Fresh w w')
        (first
          | exact ⟨c0, c1, c2, c3, c4, c5, F0⟩
          | exact ⟨c0, c1, c2, c3, c4, c5, F0.drew⟩
          | (go_split_ands; exact ⟨hf.keep (by assumption), hf.keep (by assumption), hf.keep (by assumption), hf.keep (by assumption), hf.keep (by assumption), hf.keep (by assumption), Fresh.trans (by assumption) hf⟩))
        (first
          | (go_at_call 8; refine (known _).mono ?_; rintro e w' ⟨rfl, hf⟩)
          | (go_at_call 10; refine (wordOp _ _ (by omega) (by omega) (by omega) (by omega) _).mono ?_; rintro e w' ⟨rfl, hf⟩))
      rename_i hHeld
      have F := Lib.hid hHeld.2.2.2.2.2.2
      clear hHeld
      go_wp2
      go_ret
      exact ⟨rfl, F.out⟩

end Go.Proofs.Ytmmnmkcjgadhmaa
