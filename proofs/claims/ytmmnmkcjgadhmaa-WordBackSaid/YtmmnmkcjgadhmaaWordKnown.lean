/-
  Contracts of the statements' helpers: 'known' (the chapter's example) and 'asks' (all calls of a number are what the document says) answer true; each leaves all old memory as it was.
-/
import Derived.Test.YtmmnmkcjgadhmaaWordRef
namespace Go.Proofs.Ytmmnmkcjgadhmaa
open Go.RowKit

theorem wd_one : wd 1 (-2147483648) = 2 := by decide
theorem kd_two : kd 2 = 1 := by decide
theorem vl_two : vl 2 = -2147483648 := by decide

set_option maxHeartbeats 400000 in
theorem known (w : World) : Calls Try.prog 8 #[] w fun e w' => e = .returned (.bool true) ∧ Fresh w w' := by
  go_enter Try.func8, Try.ntmps8
  go_wp2_with fail
  refine (ofOp _ (by decide) (by decide) _).mono ?_
  rintro e w1 ⟨rfl, f1⟩
  rw [kd_two, vl_two]
  have s1 := f1.size
  have F1 := Lib.hid f1
  clear f1
  go_wp2_with fail
  refine (ofOpNo _ (by decide) _).mono ?_
  rintro e w2 ⟨rfl, f2⟩
  have s2 := f2.size
  simp at s2
  have a2 : w2.cell? ⟨w1.heap.size, 0, none⟩ = some (.int .u8 1) := f2.keep (by simp)
  have b2 : w2.cell? ⟨w1.heap.size, 1, none⟩ = some (.int .i32 (-2147483648)) := f2.keep (by simp)
  have F2 := Lib.hid ((F1.out.alloc #[.int .u8 1, .int .i32 (-2147483648)] 23).trans f2)
  clear F1 f2
  go_wp2_with fail
  refine (wordOp _ _ (by decide) (by decide) (by decide) (by decide) _).mono ?_
  rintro e w3 ⟨rfl, f3⟩
  rw [wd_one]
  have g3 := ((Fresh.refl w2).alloc #[.int .u8 0, .int .i32 0] 23).trans f3
  have a3 := g3.keep a2
  have b3 := g3.keep b2
  have F3 := Lib.hid (F2.out.trans g3)
  clear F2 f3 g3 a2 b2
  go_wp2
  go_ret
  exact ⟨rfl, F3.out⟩

set_option maxHeartbeats 400000 in
theorem asksYes (n : Int) (h0 : 1 ≤ n) (h1 : n ≤ 1099511627776) (w : World) : Calls Try.prog 9 #[.int .i64 n] w fun e w' => e = .returned (.bool true) ∧ Fresh w w' := by
  go_enter Try.func9, Try.ntmps9
  go_wp2_with fail
  refine (ofOp _ h0 h1 _).mono ?_
  rintro e w1 ⟨rfl, f1⟩
  have F1 := Lib.hid f1
  clear f1
  go_wp2_with fail
  refine (refOfOp _ h0 h1 _).mono ?_
  rintro e w2 ⟨rfl, f2⟩
  have a2 : w2.cell? ⟨w1.heap.size, 0, none⟩ = some (.int .u8 (kd n)) := f2.keep (by simp)
  have b2 : w2.cell? ⟨w1.heap.size, 1, none⟩ = some (.int .i32 (vl n)) := f2.keep (by simp)
  have F2 := Lib.hid ((F1.out.alloc #[.int .u8 (kd n), .int .i32 (vl n)] 23).trans f2)
  clear f2 F1
  go_wp2_with fail
  refine (ofRes _ h0 h1 _).mono ?_
  rintro e w3 ⟨rfl, f3⟩
  have g3 := ((Fresh.refl w2).alloc #[.int .u8 (kd n), .int .i32 (vl n)] 23).trans f3
  have a3 := g3.keep a2
  have b3 := g3.keep b2
  have c3 : w3.cell? ⟨w2.heap.size, 0, none⟩ = some (.int .u8 (kd n)) := f3.keep (by simp)
  have d3 : w3.cell? ⟨w2.heap.size, 1, none⟩ = some (.int .i32 (vl n)) := f3.keep (by simp)
  have F3 := Lib.hid (F2.out.trans g3)
  clear f3 g3 F2 a2 b2
  go_wp2_with fail
  refine (refOfRes _ h0 h1 _).mono ?_
  rintro e w4 ⟨rfl, f4⟩
  have g4 := ((Fresh.refl w3).alloc #[.int .u8 (kd n), .int .i32 (vl n)] 25).trans f4
  have e4 : w4.cell? ⟨w3.heap.size, 0, none⟩ = some (.int .u8 (kd n)) := f4.keep (by simp)
  have j4 : w4.cell? ⟨w3.heap.size, 1, none⟩ = some (.int .i32 (vl n)) := f4.keep (by simp)
  have g5 := (g4.alloc #[.int .u8 (kd n), .int .i32 (vl n)] 25)
  have a4 := g5.keep a3
  have b4 := g5.keep b3
  have c4 := g5.keep c3
  have d4 := g5.keep d3
  have e5 := ((Fresh.refl w4).alloc #[.int .u8 (kd n), .int .i32 (vl n)] 25).keep e4
  have j5 := ((Fresh.refl w4).alloc #[.int .u8 (kd n), .int .i32 (vl n)] 25).keep j4
  have F4 := Lib.hid (F3.out.trans g5)
  clear f4 g4 g5 F3 a3 b3 c3 d3 e4 j4
  go_wp2
  go_ret
  exact ⟨by simp, F4.out⟩

set_option maxHeartbeats 400000 in
theorem asksNo (n : Int) (h : n < 1 ∨ 1099511627776 < n) (w : World) : Calls Try.prog 9 #[.int .i64 n] w fun e w' => e = .returned (.bool true) ∧ Fresh w w' := by
  have H := Lib.hid h
  clear h
  go_enter Try.func9, Try.ntmps9
  go_wp2_with fail
  refine (ofOpNo _ H.out _).mono ?_
  rintro e w1 ⟨rfl, f1⟩
  have F1 := Lib.hid f1
  clear f1
  go_wp2_with fail
  refine (refOfOpNo _ H.out _).mono ?_
  rintro e w2 ⟨rfl, f2⟩
  have a2 : w2.cell? ⟨w1.heap.size, 0, none⟩ = some (.int .u8 0) := f2.keep (by simp)
  have b2 : w2.cell? ⟨w1.heap.size, 1, none⟩ = some (.int .i32 0) := f2.keep (by simp)
  have F2 := Lib.hid ((F1.out.alloc #[.int .u8 0, .int .i32 0] 23).trans f2)
  clear f2 F1
  go_wp2_with fail
  refine (ofResNo _ H.out _).mono ?_
  rintro e w3 ⟨rfl, f3⟩
  have g3 := ((Fresh.refl w2).alloc #[.int .u8 0, .int .i32 0] 23).trans f3
  have a3 := g3.keep a2
  have b3 := g3.keep b2
  have c3 : w3.cell? ⟨w2.heap.size, 0, none⟩ = some (.int .u8 0) := f3.keep (by simp)
  have d3 : w3.cell? ⟨w2.heap.size, 1, none⟩ = some (.int .i32 0) := f3.keep (by simp)
  have F3 := Lib.hid (F2.out.trans g3)
  clear f3 g3 F2 a2 b2
  go_wp2_with fail
  refine (refOfResNo _ H.out _).mono ?_
  rintro e w4 ⟨rfl, f4⟩
  have g4 := ((Fresh.refl w3).alloc #[.int .u8 0, .int .i32 0] 25).trans f4
  have e4 : w4.cell? ⟨w3.heap.size, 0, none⟩ = some (.int .u8 0) := f4.keep (by simp)
  have j4 : w4.cell? ⟨w3.heap.size, 1, none⟩ = some (.int .i32 0) := f4.keep (by simp)
  have g5 := (g4.alloc #[.int .u8 0, .int .i32 0] 25)
  have a4 := g5.keep a3
  have b4 := g5.keep b3
  have c4 := g5.keep c3
  have d4 := g5.keep d3
  have e5 := ((Fresh.refl w4).alloc #[.int .u8 0, .int .i32 0] 25).keep e4
  have j5 := ((Fresh.refl w4).alloc #[.int .u8 0, .int .i32 0] 25).keep j4
  have F4 := Lib.hid (F3.out.trans g5)
  clear f4 g4 g5 F3 a3 b3 c3 d3 e4 j4
  go_wp2
  go_ret
  exact ⟨by simp, F4.out⟩

end Go.Proofs.Ytmmnmkcjgadhmaa
