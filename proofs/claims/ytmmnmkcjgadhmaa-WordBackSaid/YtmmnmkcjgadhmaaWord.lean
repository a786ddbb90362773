/-
  Contracts of package word's functions: Op and Res answer the word, OfOp and OfRes the pair or nothing, Asks whether a number is above 0; each leaves all old memory as it was.
-/
import Derived.Test.YtmmnmkcjgadhmaaFresh
import Derived.Test.YtmmnmkcjgadhmaaWordPlain
import Derived.Deep.QuietTactic
import Derived.BigQuiet
import Derived.Lib.Hide
namespace Go.Proofs.Ytmmnmkcjgadhmaa
open Go.RowKit

set_option maxHeartbeats 400000 in
theorem pairOp (k v : Int) (w : World) : Calls Try.prog 20 #[.agg #[.int .u8 k, .int .i32 v]] w fun e w' => e = .returned (.tuple #[.int .u8 k, .int .i32 v]) ∧ Fresh w w' := by
  go_enter Try.func20, Try.ntmps20
  go_wp2
  go_quiet (fail)
  go_wp2
  go_ret2
  exact ⟨rfl, ((Fresh.refl _).alloc _ _).drewN _⟩

set_option maxHeartbeats 400000 in
theorem packOp (k v : Int) (k0 : 0 ≤ k) (k1 : k ≤ 255) (v0 : -2147483648 ≤ v) (v1 : v ≤ 2147483647) (w : World) :
    Calls Try.prog 19 #[.agg #[.int .u8 k, .int .i32 v], .func (.func 20) #[] #[]] w fun e w' => e = .returned (.int .i64 (wd k v)) ∧ Fresh w w' := by
  go_enter Try.func19, Try.ntmps19
  go_wp2_with fail
  refine (pairOp _ _ _).mono ?_
  rintro e w' ⟨rfl, hf⟩
  have F := ((Fresh.refl w).alloc #[.int .u8 k, .int .i32 v] 23).trans hf
  clear hf
  go_wp2
  go_ret
  exact ⟨rfl, F⟩

set_option maxHeartbeats 400000 in
theorem wordOp (k v : Int) (k0 : 0 ≤ k) (k1 : k ≤ 255) (v0 : -2147483648 ≤ v) (v1 : v ≤ 2147483647) (w : World) :
    Calls Try.prog 10 #[.agg #[.int .u8 k, .int .i32 v]] w fun e w' => e = .returned (.int .i64 (wd k v)) ∧ Fresh w w' := by
  go_enter Try.func10, Try.ntmps10
  go_wp2_with fail
  refine (packOp _ _ k0 k1 v0 v1 _).mono ?_
  rintro e w' ⟨rfl, hf⟩
  have F := ((Fresh.refl w).alloc #[.int .u8 k, .int .i32 v] 23).trans hf
  clear hf
  go_wp2
  go_ret
  exact ⟨rfl, F⟩

set_option maxHeartbeats 400000 in
theorem makeOp (k v : Int) (w : World) : Calls Try.prog 24 #[.int .u8 k, .int .i32 v] w fun e w' => e = .returned (.agg #[.int .u8 k, .int .i32 v]) ∧ Fresh w w' := by
  go_enter Try.func24, Try.ntmps24
  go_wp2
  exact bodyPost_ret (v := .agg #[.int .u8 k, .int .i32 v]) (by simp [results, Try.results24, go_sem]) rfl ⟨rfl, (Fresh.refl _).alloc _ _⟩

set_option maxHeartbeats 400000 in
theorem unOp (n : Int) (h0 : 1 ≤ n) (h1 : n ≤ 1099511627776) (w : World) :
    Calls Try.prog 23 #[.int .i64 n, .func (.func 24) #[] #[]] w fun e w' => e = .returned (.tuple #[.agg #[.int .u8 (kd n), .int .i32 (vl n)], .bool true]) ∧ Fresh w w' := by
  go_enter Try.func23, Try.ntmps23
  go_wp2_with fail
  refine (makeOp _ _ _).mono ?_
  rintro e w' ⟨rfl, hf⟩
  have hs : w.heap.size < w'.heap.size := by have := hf.size; simp at this; omega
  have hc := hf.cell
  have hm : ∀ b o, w'.frozen? ⟨b, o, none⟩ = (w.alloc (.cells #[.int .u8 0, .int .i32 0] 23)).frozen? ⟨b, o, none⟩ := fun b o => hf.marks _
  have F := Lib.hid (((Fresh.refl w).alloc #[.int .u8 0, .int .i32 0] 23).trans hf)
  clear hf
  go_wp2
  exact bodyPost_ret (v := .tuple #[.agg #[.int .u8 (kd n), .int .i32 (vl n)], .bool true]) (by simp [results, Try.results23, go_sem, hc, kd, vl]) rfl ⟨rfl, (F.out.setCell (by simp) _).setCell (by simp) _⟩

set_option maxHeartbeats 400000 in
theorem unOpNo (n : Int) (h : n < 1 ∨ 1099511627776 < n) (w : World) :
    Calls Try.prog 23 #[.int .i64 n, .func (.func 24) #[] #[]] w fun e w' => e = .returned (.tuple #[.agg #[.int .u8 0, .int .i32 0], .bool false]) ∧ Fresh w w' := by
  rcases h with h | h
  · go_enter Try.func23, Try.ntmps23
    go_wp2
    exact bodyPost_ret (v := .tuple #[.agg #[.int .u8 0, .int .i32 0], .bool false]) (by simp [results, Try.results23, go_sem]) rfl ⟨rfl, ((Fresh.refl _).alloc _ _).alloc _ _⟩
  · have h' : ¬ n < 1 := by omega
    go_enter Try.func23, Try.ntmps23
    go_wp2
    exact bodyPost_ret (v := .tuple #[.agg #[.int .u8 0, .int .i32 0], .bool false]) (by simp [results, Try.results23, go_sem]) rfl ⟨rfl, ((Fresh.refl _).alloc _ _).alloc _ _⟩

set_option maxHeartbeats 400000 in
theorem ofOp (n : Int) (h0 : 1 ≤ n) (h1 : n ≤ 1099511627776) (w : World) :
    Calls Try.prog 14 #[.int .i64 n] w fun e w' => e = .returned (.tuple #[.agg #[.int .u8 (kd n), .int .i32 (vl n)], .bool true]) ∧ Fresh w w' := by
  go_enter Try.func14, Try.ntmps14
  go_wp2_with fail
  refine (unOp _ h0 h1 _).mono ?_
  rintro e w' ⟨rfl, hf⟩
  have hs : w.heap.size < w'.heap.size := by have := hf.size; simp at this; omega
  have hc := hf.cell
  have hm : ∀ b o, w'.frozen? ⟨b, o, none⟩ = (w.alloc (.cells #[.int .u8 0, .int .i32 0] 23)).frozen? ⟨b, o, none⟩ := fun b o => hf.marks _
  have F := Lib.hid (((Fresh.refl w).alloc #[.int .u8 0, .int .i32 0] 23).trans hf)
  clear hf
  go_wp2
  exact bodyPost_ret (v := .tuple #[.agg #[.int .u8 (kd n), .int .i32 (vl n)], .bool true]) (by simp [results, Try.results14, go_sem, hc]) rfl ⟨rfl, (F.out.setCell (by simp) _).setCell (by simp) _⟩

set_option maxHeartbeats 400000 in
theorem ofOpNo (n : Int) (h : n < 1 ∨ 1099511627776 < n) (w : World) :
    Calls Try.prog 14 #[.int .i64 n] w fun e w' => e = .returned (.tuple #[.agg #[.int .u8 0, .int .i32 0], .bool false]) ∧ Fresh w w' := by
  have H := Lib.hid h
  clear h
  go_enter Try.func14, Try.ntmps14
  go_wp2_with fail
  refine (unOpNo _ H.out _).mono ?_
  rintro e w' ⟨rfl, hf⟩
  have hs : w.heap.size < w'.heap.size := by have := hf.size; simp at this; omega
  have hc := hf.cell
  have hm : ∀ b o, w'.frozen? ⟨b, o, none⟩ = (w.alloc (.cells #[.int .u8 0, .int .i32 0] 23)).frozen? ⟨b, o, none⟩ := fun b o => hf.marks _
  have F := Lib.hid (((Fresh.refl w).alloc #[.int .u8 0, .int .i32 0] 23).trans hf)
  clear hf
  go_wp2
  exact bodyPost_ret (v := .tuple #[.agg #[.int .u8 0, .int .i32 0], .bool false]) (by simp [results, Try.results14, go_sem, hc]) rfl ⟨rfl, (F.out.setCell (by simp) _).setCell (by simp) _⟩

set_option maxHeartbeats 400000 in
theorem refOp (k v : Int) (k0 : 0 ≤ k) (k1 : k ≤ 255) (v0 : -2147483648 ≤ v) (v1 : v ≤ 2147483647) (w : World) :
    Calls Try.prog 11 #[.agg #[.int .u8 k, .int .i32 v]] w fun e w' => e = .returned (.int .i64 (wd k v)) ∧ Fresh w w' := by
  go_enter Try.func11, Try.ntmps11
  go_wp2
  go_ret
  exact ⟨rfl, (Fresh.refl _).alloc _ _⟩

set_option maxHeartbeats 400000 in
theorem pairRes (k v : Int) (w : World) : Calls Try.prog 22 #[.agg #[.int .u8 k, .int .i32 v]] w fun e w' => e = .returned (.tuple #[.int .u8 k, .int .i32 v]) ∧ Fresh w w' := by
  go_enter Try.func22, Try.ntmps22
  go_wp2
  go_quiet (fail)
  go_wp2
  go_ret2
  exact ⟨rfl, ((Fresh.refl _).alloc _ _).drewN _⟩

set_option maxHeartbeats 400000 in
theorem packRes (k v : Int) (k0 : 0 ≤ k) (k1 : k ≤ 255) (v0 : -2147483648 ≤ v) (v1 : v ≤ 2147483647) (w : World) :
    Calls Try.prog 21 #[.agg #[.int .u8 k, .int .i32 v], .func (.func 22) #[] #[]] w fun e w' => e = .returned (.int .i64 (wd k v)) ∧ Fresh w w' := by
  go_enter Try.func21, Try.ntmps21
  go_wp2_with fail
  refine (pairRes _ _ _).mono ?_
  rintro e w' ⟨rfl, hf⟩
  have F := ((Fresh.refl w).alloc #[.int .u8 k, .int .i32 v] 25).trans hf
  clear hf
  go_wp2
  go_ret
  exact ⟨rfl, F⟩

set_option maxHeartbeats 400000 in
theorem wordRes (k v : Int) (k0 : 0 ≤ k) (k1 : k ≤ 255) (v0 : -2147483648 ≤ v) (v1 : v ≤ 2147483647) (w : World) :
    Calls Try.prog 12 #[.agg #[.int .u8 k, .int .i32 v]] w fun e w' => e = .returned (.int .i64 (wd k v)) ∧ Fresh w w' := by
  go_enter Try.func12, Try.ntmps12
  go_wp2_with fail
  refine (packRes _ _ k0 k1 v0 v1 _).mono ?_
  rintro e w' ⟨rfl, hf⟩
  have F := ((Fresh.refl w).alloc #[.int .u8 k, .int .i32 v] 25).trans hf
  clear hf
  go_wp2
  go_ret
  exact ⟨rfl, F⟩

set_option maxHeartbeats 400000 in
theorem makeRes (k v : Int) (w : World) : Calls Try.prog 26 #[.int .u8 k, .int .i32 v] w fun e w' => e = .returned (.agg #[.int .u8 k, .int .i32 v]) ∧ Fresh w w' := by
  go_enter Try.func26, Try.ntmps26
  go_wp2
  exact bodyPost_ret (v := .agg #[.int .u8 k, .int .i32 v]) (by simp [results, Try.results26, go_sem]) rfl ⟨rfl, (Fresh.refl _).alloc _ _⟩

set_option maxHeartbeats 400000 in
theorem unRes (n : Int) (h0 : 1 ≤ n) (h1 : n ≤ 1099511627776) (w : World) :
    Calls Try.prog 25 #[.int .i64 n, .func (.func 26) #[] #[]] w fun e w' => e = .returned (.tuple #[.agg #[.int .u8 (kd n), .int .i32 (vl n)], .bool true]) ∧ Fresh w w' := by
  go_enter Try.func25, Try.ntmps25
  go_wp2_with fail
  refine (makeRes _ _ _).mono ?_
  rintro e w' ⟨rfl, hf⟩
  have hs : w.heap.size < w'.heap.size := by have := hf.size; simp at this; omega
  have hc := hf.cell
  have hm : ∀ b o, w'.frozen? ⟨b, o, none⟩ = (w.alloc (.cells #[.int .u8 0, .int .i32 0] 25)).frozen? ⟨b, o, none⟩ := fun b o => hf.marks _
  have F := Lib.hid (((Fresh.refl w).alloc #[.int .u8 0, .int .i32 0] 25).trans hf)
  clear hf
  go_wp2
  exact bodyPost_ret (v := .tuple #[.agg #[.int .u8 (kd n), .int .i32 (vl n)], .bool true]) (by simp [results, Try.results25, go_sem, hc, kd, vl]) rfl ⟨rfl, (F.out.setCell (by simp) _).setCell (by simp) _⟩

set_option maxHeartbeats 400000 in
theorem unResNo (n : Int) (h : n < 1 ∨ 1099511627776 < n) (w : World) :
    Calls Try.prog 25 #[.int .i64 n, .func (.func 26) #[] #[]] w fun e w' => e = .returned (.tuple #[.agg #[.int .u8 0, .int .i32 0], .bool false]) ∧ Fresh w w' := by
  rcases h with h | h
  · go_enter Try.func25, Try.ntmps25
    go_wp2
    exact bodyPost_ret (v := .tuple #[.agg #[.int .u8 0, .int .i32 0], .bool false]) (by simp [results, Try.results25, go_sem]) rfl ⟨rfl, ((Fresh.refl _).alloc _ _).alloc _ _⟩
  · have h' : ¬ n < 1 := by omega
    go_enter Try.func25, Try.ntmps25
    go_wp2
    exact bodyPost_ret (v := .tuple #[.agg #[.int .u8 0, .int .i32 0], .bool false]) (by simp [results, Try.results25, go_sem]) rfl ⟨rfl, ((Fresh.refl _).alloc _ _).alloc _ _⟩

set_option maxHeartbeats 400000 in
theorem ofRes (n : Int) (h0 : 1 ≤ n) (h1 : n ≤ 1099511627776) (w : World) :
    Calls Try.prog 15 #[.int .i64 n] w fun e w' => e = .returned (.tuple #[.agg #[.int .u8 (kd n), .int .i32 (vl n)], .bool true]) ∧ Fresh w w' := by
  go_enter Try.func15, Try.ntmps15
  go_wp2_with fail
  refine (unRes _ h0 h1 _).mono ?_
  rintro e w' ⟨rfl, hf⟩
  have hs : w.heap.size < w'.heap.size := by have := hf.size; simp at this; omega
  have hc := hf.cell
  have hm : ∀ b o, w'.frozen? ⟨b, o, none⟩ = (w.alloc (.cells #[.int .u8 0, .int .i32 0] 25)).frozen? ⟨b, o, none⟩ := fun b o => hf.marks _
  have F := Lib.hid (((Fresh.refl w).alloc #[.int .u8 0, .int .i32 0] 25).trans hf)
  clear hf
  go_wp2
  exact bodyPost_ret (v := .tuple #[.agg #[.int .u8 (kd n), .int .i32 (vl n)], .bool true]) (by simp [results, Try.results15, go_sem, hc]) rfl ⟨rfl, (F.out.setCell (by simp) _).setCell (by simp) _⟩

set_option maxHeartbeats 400000 in
theorem ofResNo (n : Int) (h : n < 1 ∨ 1099511627776 < n) (w : World) :
    Calls Try.prog 15 #[.int .i64 n] w fun e w' => e = .returned (.tuple #[.agg #[.int .u8 0, .int .i32 0], .bool false]) ∧ Fresh w w' := by
  have H := Lib.hid h
  clear h
  go_enter Try.func15, Try.ntmps15
  go_wp2_with fail
  refine (unResNo _ H.out _).mono ?_
  rintro e w' ⟨rfl, hf⟩
  have hs : w.heap.size < w'.heap.size := by have := hf.size; simp at this; omega
  have hc := hf.cell
  have hm : ∀ b o, w'.frozen? ⟨b, o, none⟩ = (w.alloc (.cells #[.int .u8 0, .int .i32 0] 25)).frozen? ⟨b, o, none⟩ := fun b o => hf.marks _
  have F := Lib.hid (((Fresh.refl w).alloc #[.int .u8 0, .int .i32 0] 25).trans hf)
  clear hf
  go_wp2
  exact bodyPost_ret (v := .tuple #[.agg #[.int .u8 0, .int .i32 0], .bool false]) (by simp [results, Try.results15, go_sem, hc]) rfl ⟨rfl, (F.out.setCell (by simp) _).setCell (by simp) _⟩

set_option maxHeartbeats 400000 in
theorem refRes (k v : Int) (k0 : 0 ≤ k) (k1 : k ≤ 255) (v0 : -2147483648 ≤ v) (v1 : v ≤ 2147483647) (w : World) :
    Calls Try.prog 13 #[.agg #[.int .u8 k, .int .i32 v]] w fun e w' => e = .returned (.int .i64 (wd k v)) ∧ Fresh w w' := by
  go_enter Try.func13, Try.ntmps13
  go_wp2
  go_ret
  exact ⟨rfl, (Fresh.refl _).alloc _ _⟩

set_option maxHeartbeats 400000 in
theorem asksAny (n : Int) (w : World) : Calls Try.prog 16 #[.int .i64 n] w fun e w' => e = .returned (.bool (decide (0 < n))) ∧ w = w' := by
  go_enter Try.func16, Try.ntmps16
  go_wp2
  go_ret
  exact ⟨rfl, rfl⟩

end Go.Proofs.Ytmmnmkcjgadhmaa
