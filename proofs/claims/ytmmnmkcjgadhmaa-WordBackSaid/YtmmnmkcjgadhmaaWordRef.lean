/-
  Contracts of the document's own answers for words (package reaperref01): OfOp and OfRes answer the pair or nothing; each leaves all old memory as it was.
-/
import Derived.Test.YtmmnmkcjgadhmaaWord
namespace Go.Proofs.Ytmmnmkcjgadhmaa
open Go.RowKit

set_option maxHeartbeats 400000 in
theorem refOfOp (n : Int) (h0 : 1 ≤ n) (h1 : n ≤ 1099511627776) (w : World) :
    Calls Try.prog 17 #[.int .i64 n] w fun e w' => e = .returned (.tuple #[.agg #[.int .u8 (kd n), .int .i32 (vl n)], .bool true]) ∧ Fresh w w' := by
  go_enter Try.func17, Try.ntmps17
  go_wp2
  exact bodyPost_ret (v := .tuple #[.agg #[.int .u8 (kd n), .int .i32 (vl n)], .bool true]) (by simp [results, Try.results17, go_sem, kd, vl]) rfl ⟨rfl, (Fresh.refl _).alloc _ _⟩

set_option maxHeartbeats 400000 in
theorem refOfOpNo (n : Int) (h : n < 1 ∨ 1099511627776 < n) (w : World) :
    Calls Try.prog 17 #[.int .i64 n] w fun e w' => e = .returned (.tuple #[.agg #[.int .u8 0, .int .i32 0], .bool false]) ∧ Fresh w w' := by
  rcases h with h | h
  · go_enter Try.func17, Try.ntmps17
    go_wp2
    exact bodyPost_ret (v := .tuple #[.agg #[.int .u8 0, .int .i32 0], .bool false]) (by simp [results, Try.results17, go_sem]) rfl ⟨rfl, (Fresh.refl _).alloc _ _⟩
  · have h' : ¬ n < 1 := by omega
    go_enter Try.func17, Try.ntmps17
    go_wp2
    exact bodyPost_ret (v := .tuple #[.agg #[.int .u8 0, .int .i32 0], .bool false]) (by simp [results, Try.results17, go_sem]) rfl ⟨rfl, (Fresh.refl _).alloc _ _⟩

set_option maxHeartbeats 400000 in
theorem refOfRes (n : Int) (h0 : 1 ≤ n) (h1 : n ≤ 1099511627776) (w : World) :
    Calls Try.prog 18 #[.int .i64 n] w fun e w' => e = .returned (.tuple #[.agg #[.int .u8 (kd n), .int .i32 (vl n)], .bool true]) ∧ Fresh w w' := by
  go_enter Try.func18, Try.ntmps18
  go_wp2_with fail
  refine (refOfOp _ h0 h1 _).mono ?_
  rintro e w' ⟨rfl, hf⟩
  have hs : w.heap.size < w'.heap.size := by have := hf.size; simp at this; omega
  have hc := hf.cell
  have hm : ∀ b o, w'.frozen? ⟨b, o, none⟩ = (w.alloc (.cells #[.int .u8 0, .int .i32 0] 25)).frozen? ⟨b, o, none⟩ := fun b o => hf.marks _
  have F := Lib.hid (((Fresh.refl w).alloc #[.int .u8 0, .int .i32 0] 25).trans hf)
  clear hf
  go_wp2
  exact bodyPost_ret (v := .tuple #[.agg #[.int .u8 (kd n), .int .i32 (vl n)], .bool true]) (by simp [results, Try.results18, go_sem, hc, hs]) rfl ⟨rfl, ((F.out.setCell (by simp) _).setCell (by simp) _).alloc _ _⟩

set_option maxHeartbeats 400000 in
theorem refOfResNo (n : Int) (h : n < 1 ∨ 1099511627776 < n) (w : World) :
    Calls Try.prog 18 #[.int .i64 n] w fun e w' => e = .returned (.tuple #[.agg #[.int .u8 0, .int .i32 0], .bool false]) ∧ Fresh w w' := by
  have H := Lib.hid h
  clear h
  go_enter Try.func18, Try.ntmps18
  go_wp2_with fail
  refine (refOfOpNo _ H.out _).mono ?_
  rintro e w' ⟨rfl, hf⟩
  have hs : w.heap.size < w'.heap.size := by have := hf.size; simp at this; omega
  have hc := hf.cell
  have hm : ∀ b o, w'.frozen? ⟨b, o, none⟩ = (w.alloc (.cells #[.int .u8 0, .int .i32 0] 25)).frozen? ⟨b, o, none⟩ := fun b o => hf.marks _
  have F := Lib.hid (((Fresh.refl w).alloc #[.int .u8 0, .int .i32 0] 25).trans hf)
  clear hf
  go_wp2
  exact bodyPost_ret (v := .tuple #[.agg #[.int .u8 0, .int .i32 0], .bool false]) (by simp [results, Try.results18, go_sem, hc, hs]) rfl ⟨rfl, ((F.out.setCell (by simp) _).setCell (by simp) _).alloc _ _⟩

end Go.Proofs.Ytmmnmkcjgadhmaa
