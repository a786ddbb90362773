/-
  The calls of package cells where one memory is looked at: what it is behind each call, and that nothing below the block B is touched; and the example that every statement asks ('known'). Conditions: a memory as Mem1 says; steps below a million.
-/
import Derived.Test.YteebmcldmiemnaaCellsE
namespace Go.Proofs.Yteebmcldmiemnaa
open Go.RowKit

section
variable {w : World} {B p : Nat} {size : Int} {zs : List Int} {st : Int}

theorem alloc1 (h : Mem1 w B p size zs st) (n : Int) (h0 : 0 ≤ n) (h1 : n ≤ size - zs.length) (k0 : 0 ≤ st) (k1 : st < 1000000) :
    Calls Try.prog 12 #[.pointer (some ⟨p, 0, none⟩), .int .i64 n] w fun e w' => e = .returned (.tuple #[.int .i64 (zs.length : Int), .int .u16 0]) ∧ Mem1 w' B p size (zs ++ List.replicate n.toNat 0) (st + 1) ∧ Below B w w' := by
  obtain ⟨v, m⟩ := h
  have C := allocOk m n.toNat (by omega) k0 k1
  rw [Int.toNat_of_nonneg h0] at C
  exact C.mono fun e w' ⟨he, d⟩ => ⟨he, d.one m⟩

theorem allocNeg1 (h : Mem1 w B p size zs st) (n : Int) (hn : n < 0) :
    Calls Try.prog 12 #[.pointer (some ⟨p, 0, none⟩), .int .i64 n] w fun e w' => e = .returned (.tuple #[.int .i64 0, .int .u16 1]) ∧ Mem1 w' B p size zs st ∧ Below B w w' := by
  obtain ⟨v, m⟩ := h
  exact (allocNeg m n hn).mono fun e w' ⟨he, d⟩ => ⟨he, d.one m⟩

theorem allocFull1 (h : Mem1 w B p size zs st) (n : Int) (h0 : 0 ≤ n) (h1 : size - zs.length < n) :
    Calls Try.prog 12 #[.pointer (some ⟨p, 0, none⟩), .int .i64 n] w fun e w' => e = .returned (.tuple #[.int .i64 0, .int .u16 11]) ∧ Mem1 w' B p size zs st ∧ Below B w w' := by
  obtain ⟨v, m⟩ := h
  exact (allocFull m n ⟨h0, h1⟩).mono fun e w' ⟨he, d⟩ => ⟨he, d.one m⟩

theorem load1 (h : Mem1 w B p size zs st) (a : Int) (h0 : 0 ≤ a) (h1 : a < zs.length) (k0 : 0 ≤ st) (k1 : st < 1000000) :
    Calls Try.prog 15 #[.pointer (some ⟨p, 0, none⟩), .int .i64 a] w fun e w' => e = .returned (.tuple #[.int .i64 (zs.getD a.toNat 0), .int .u16 0]) ∧ Mem1 w' B p size zs (st + 1) ∧ Below B w w' := by
  obtain ⟨v, m⟩ := h
  exact (loadIn m a h0 h1 k0 k1).mono fun e w' ⟨he, d⟩ => ⟨he, d.one m⟩

theorem loadOut1 (h : Mem1 w B p size zs st) (a : Int) (h0 : a < 0 ∨ zs.length ≤ a) :
    Calls Try.prog 15 #[.pointer (some ⟨p, 0, none⟩), .int .i64 a] w fun e w' => e = .returned (.tuple #[.int .i64 0, .int .u16 10]) ∧ Mem1 w' B p size zs st ∧ Below B w w' := by
  obtain ⟨v, m⟩ := h
  exact (loadOut m a h0).mono fun e w' ⟨he, d⟩ => ⟨he, d.one m⟩

theorem store1 (h : Mem1 w B p size zs st) (a x : Int) (h0 : 0 ≤ a) (h1 : a < zs.length) (k0 : 0 ≤ st) (k1 : st < 1000000) :
    Calls Try.prog 13 #[.pointer (some ⟨p, 0, none⟩), .int .i64 a, .int .i64 x] w fun e w' => e = .returned (.int .u16 0) ∧ Mem1 w' B p size (zs.set a.toNat x) (st + 1) ∧ Below B w w' := by
  obtain ⟨v, m⟩ := h
  exact (storeIn m a x h0 h1 k0 k1).mono fun e w' ⟨he, d⟩ => ⟨he, d.one m⟩

theorem storeOut1 (h : Mem1 w B p size zs st) (a x : Int) (h0 : a < 0 ∨ zs.length ≤ a) :
    Calls Try.prog 13 #[.pointer (some ⟨p, 0, none⟩), .int .i64 a, .int .i64 x] w fun e w' => e = .returned (.int .u16 10) ∧ Mem1 w' B p size zs st ∧ Below B w w' := by
  obtain ⟨v, m⟩ := h
  exact (storeOut m a x h0).mono fun e w' ⟨he, d⟩ => ⟨he, d.one m⟩

theorem swap1 (h : Mem1 w B p size zs st) (a old x : Int) (h0 : 0 ≤ a) (h1 : a < zs.length) (ho : zs.getD a.toNat 0 = old) (k0 : 0 ≤ st) (k1 : st < 1000000) :
    Calls Try.prog 14 #[.pointer (some ⟨p, 0, none⟩), .int .i64 a, .int .i64 old, .int .i64 x] w fun e w' => e = .returned (.tuple #[.bool true, .int .u16 0]) ∧ Mem1 w' B p size (zs.set a.toNat x) (st + 1) ∧ Below B w w' := by
  obtain ⟨v, m⟩ := h
  exact (swapIn m a old x h0 h1 ho k0 k1).mono fun e w' ⟨he, d⟩ => ⟨he, d.one m⟩

theorem swapNo1 (h : Mem1 w B p size zs st) (a old x : Int) (h0 : 0 ≤ a) (h1 : a < zs.length) (ho : zs.getD a.toNat 0 ≠ old) (k0 : 0 ≤ st) (k1 : st < 1000000) :
    Calls Try.prog 14 #[.pointer (some ⟨p, 0, none⟩), .int .i64 a, .int .i64 old, .int .i64 x] w fun e w' => e = .returned (.tuple #[.bool false, .int .u16 0]) ∧ Mem1 w' B p size zs (st + 1) ∧ Below B w w' := by
  obtain ⟨v, m⟩ := h
  exact (swapNo m a old x h0 h1 ho k0 k1).mono fun e w' ⟨he, d⟩ => ⟨he, d.one m⟩

theorem swapOut1 (h : Mem1 w B p size zs st) (a old x : Int) (h0 : a < 0 ∨ zs.length ≤ a) :
    Calls Try.prog 14 #[.pointer (some ⟨p, 0, none⟩), .int .i64 a, .int .i64 old, .int .i64 x] w fun e w' => e = .returned (.tuple #[.bool false, .int .u16 10]) ∧ Mem1 w' B p size zs st ∧ Below B w w' := by
  obtain ⟨v, m⟩ := h
  exact (swapOut m a old x h0).mono fun e w' ⟨he, d⟩ => ⟨he, d.one m⟩

theorem top1 (h : Mem1 w B p size zs st) :
    Calls Try.prog 17 #[.pointer (some ⟨p, 0, none⟩)] w fun e w' => e = .returned (.int .i64 zs.length) ∧ w = w' := by
  obtain ⟨v, m⟩ := h
  exact topAny m

theorem steps1 (h : Mem1 w B p size zs st) :
    Calls Try.prog 18 #[.pointer (some ⟨p, 0, none⟩)] w fun e w' => e = .returned (.int .i64 st) ∧ w = w' := by
  obtain ⟨v, m⟩ := h
  exact stepsAny m

theorem cells1 (h : Mem1 w B p size zs st) :
    Calls Try.prog 16 #[.pointer (some ⟨p, 0, none⟩)] w fun e w' => e = .returned (.slice (some ⟨w.heap.size, 0, none⟩) zs.length zs.length) ∧
      w'.ownsRow w.heap.size 2 1 (.slice (some ⟨w.heap.size, 0, none⟩) zs.length zs.length) zs.length (zs.map (Value.int .i64)) ∧ Below w.heap.size w w' := by
  obtain ⟨v, m⟩ := h
  exact cellsAny m

theorem copy1 (h : Mem1 w B p size zs st) :
    Calls Try.prog 19 #[.pointer (some ⟨p, 0, none⟩)] w (Copied w size zs st) := by
  obtain ⟨v, m⟩ := h
  exact copyAny m

theorem new1 (n : Int) (w : World) (h0 : 0 ≤ n) (h1 : n ≤ 1000) :
    Calls Try.prog 11 #[.int .i64 n] w fun e w' => e = .returned (.pointer (some ⟨w.heap.size, 0, none⟩)) ∧ Mem1 w' w.heap.size w.heap.size n [] 0 ∧ Below w.heap.size w w' := by
  have e0 : sizeOf' n = n := by unfold sizeOf'; rw [if_neg (by omega), if_neg (by omega)]
  have C := newAny n w
  rw [e0] at C
  exact C.mono fun e w' ⟨he, m, b⟩ => ⟨he, ⟨_, m⟩, b⟩
end

set_option maxRecDepth 100000 in
set_option maxHeartbeats 1600000 in
theorem known (w : World) : Calls Try.prog 9 #[] w fun e w' => e = .returned (.bool true) ∧ Below w.heap.size w w' := by
  go_enter Try.func9, Try.ntmps9
  go_wp2_with fail
  refine (new1 2 w (by omega) (by omega)).mono ?_
  rintro e w1 ⟨rfl, m1, b1⟩
  have C := alloc1 m1 2 (by omega) (by simp) (by omega) (by omega)
  have HB := Lib.hid b1
  clear b1 m1
  go_wp2_with fail
  refine C.mono ?_
  clear C
  rintro e w2 ⟨rfl, m2, b2⟩
  have C := swap1 m2 1 0 5 (by omega) (by simp) (by simp) (by omega) (by omega)
  have HB := Lib.hid (HB.out.trans b2)
  clear b2 m2
  go_wp2_with fail
  refine C.mono ?_
  clear C
  rintro e w3 ⟨rfl, m3, b3⟩
  have C := load1 m3 1 (by omega) (by simp) (by omega) (by omega)
  have HB := Lib.hid (HB.out.trans b3)
  clear b3 m3
  go_wp2_with fail
  refine C.mono ?_
  clear C
  rintro e w4 ⟨rfl, m4, b4⟩
  have C := loadOut1 m4 2 (by simp)
  have HB := Lib.hid (HB.out.trans b4)
  clear b4 m4
  go_wp2_with fail
  refine C.mono ?_
  clear C
  rintro e w5 ⟨rfl, m5, b5⟩
  have T := top1 m5
  have S := steps1 m5
  have HB := Lib.hid (HB.out.trans b5)
  clear b5 m5
  go_wp2_with (first | (go_at_call 17; refine T.mono ?_; rintro e w' ⟨rfl, rfl⟩) | (go_at_call 18; refine S.mono ?_; rintro e w' ⟨rfl, rfl⟩))
  go_ret
  exact ⟨by simp, HB.out⟩

end Go.Proofs.Yteebmcldmiemnaa
