/-
  The calls of package cells where only the number of cells and the steps are looked at. Conditions: a memory as MemL says; steps below a million.
-/
import Derived.Test.YteebmcldmiemnaaArgs
namespace Go.Proofs.Yteebmcldmiemnaa
open Go.RowKit

/-- A memory of n cells, whatever they are. -/
def MemL (w : World) (B p : Nat) (size : Int) (n : Nat) (st : Int) : Prop := ∃ zs : List Int, zs.length = n ∧ Mem1 w B p size zs st

/-- What a call tells is not looked at. -/
def Goes (B p : Nat) (size : Int) (n : Nat) (st : Int) (w : World) (e : Ending) (w' : World) : Prop := ∃ r, e = .returned r ∧ MemL w' B p size n st ∧ Below B w w'

section
variable {w : World} {B p n : Nat} {size st : Int}
theorem loadLin (h : MemL w B p size n st) (a : Int) (h0 : 0 ≤ a) (h1 : a < n) (k0 : 0 ≤ st) (k1 : st < 1000000) :
    Calls Try.prog 15 #[.pointer (some ⟨p, 0, none⟩), .int .i64 a] w (Goes B p size n (st + 1) w) := by
  obtain ⟨zs, rfl, m⟩ := h
  exact (load1 m a h0 h1 k0 k1).mono fun e w' ⟨he, m', b⟩ => ⟨_, he, ⟨_, rfl, m'⟩, b⟩
theorem loadLout (h : MemL w B p size n st) (a : Int) (h1 : n ≤ a) :
    Calls Try.prog 15 #[.pointer (some ⟨p, 0, none⟩), .int .i64 a] w (Goes B p size n st w) := by
  obtain ⟨zs, rfl, m⟩ := h
  exact (loadOut1 m a (.inr h1)).mono fun e w' ⟨he, m', b⟩ => ⟨_, he, ⟨_, rfl, m'⟩, b⟩
theorem storeLin (h : MemL w B p size n st) (a x : Int) (h0 : 0 ≤ a) (h1 : a < n) (k0 : 0 ≤ st) (k1 : st < 1000000) :
    Calls Try.prog 13 #[.pointer (some ⟨p, 0, none⟩), .int .i64 a, .int .i64 x] w (Goes B p size n (st + 1) w) := by
  obtain ⟨zs, rfl, m⟩ := h
  exact (store1 m a x h0 h1 k0 k1).mono fun e w' ⟨he, m', b⟩ => ⟨_, he, ⟨_, by simp, m'⟩, b⟩
theorem storeLout (h : MemL w B p size n st) (a x : Int) (h1 : n ≤ a) :
    Calls Try.prog 13 #[.pointer (some ⟨p, 0, none⟩), .int .i64 a, .int .i64 x] w (Goes B p size n st w) := by
  obtain ⟨zs, rfl, m⟩ := h
  exact (storeOut1 m a x (.inr h1)).mono fun e w' ⟨he, m', b⟩ => ⟨_, he, ⟨_, rfl, m'⟩, b⟩
theorem swapLin (h : MemL w B p size n st) (a old x : Int) (h0 : 0 ≤ a) (h1 : a < n) (k0 : 0 ≤ st) (k1 : st < 1000000) :
    Calls Try.prog 14 #[.pointer (some ⟨p, 0, none⟩), .int .i64 a, .int .i64 old, .int .i64 x] w (Goes B p size n (st + 1) w) := by
  obtain ⟨zs, rfl, m⟩ := h
  by_cases ho : zs.getD a.toNat 0 = old
  · exact (swap1 m a old x h0 h1 ho k0 k1).mono fun e w' ⟨he, m', b⟩ => ⟨_, he, ⟨_, by simp, m'⟩, b⟩
  · exact (swapNo1 m a old x h0 h1 ho k0 k1).mono fun e w' ⟨he, m', b⟩ => ⟨_, he, ⟨_, rfl, m'⟩, b⟩
theorem swapLout (h : MemL w B p size n st) (a old x : Int) (h1 : n ≤ a) :
    Calls Try.prog 14 #[.pointer (some ⟨p, 0, none⟩), .int .i64 a, .int .i64 old, .int .i64 x] w (Goes B p size n st w) := by
  obtain ⟨zs, rfl, m⟩ := h
  exact (swapOut1 m a old x (.inr h1)).mono fun e w' ⟨he, m', b⟩ => ⟨_, he, ⟨_, rfl, m'⟩, b⟩
theorem topL (h : MemL w B p size n st) :
    Calls Try.prog 17 #[.pointer (some ⟨p, 0, none⟩)] w fun e w' => e = .returned (.int .i64 n) ∧ w = w' := by
  obtain ⟨zs, rfl, m⟩ := h
  exact top1 m
theorem stepsL (h : MemL w B p size n st) :
    Calls Try.prog 18 #[.pointer (some ⟨p, 0, none⟩)] w fun e w' => e = .returned (.int .i64 st) ∧ w = w' := by
  obtain ⟨zs, rfl, m⟩ := h
  exact steps1 m
end

section
variable {w : World} {B p n : Nat} {size st : Int}
theorem allocL (h : MemL w B p size n st) (a : Int) (h0 : 0 ≤ a) (h1 : a ≤ size - n) (k0 : 0 ≤ st) (k1 : st < 1000000) :
    Calls Try.prog 12 #[.pointer (some ⟨p, 0, none⟩), .int .i64 a] w fun e w' => e = .returned (.tuple #[.int .i64 (n : Int), .int .u16 0]) ∧ MemL w' B p size (n + a.toNat) (st + 1) ∧ Below B w w' := by
  obtain ⟨zs, rfl, m⟩ := h
  exact (alloc1 m a h0 h1 k0 k1).mono fun e w' ⟨he, m', b⟩ => ⟨he, ⟨_, by simp, m'⟩, b⟩
theorem allocLfull (h : MemL w B p size n st) (a : Int) (h0 : 0 ≤ a) (h1 : size - n < a) :
    Calls Try.prog 12 #[.pointer (some ⟨p, 0, none⟩), .int .i64 a] w fun e w' => e = .returned (.tuple #[.int .i64 0, .int .u16 11]) ∧ MemL w' B p size n st ∧ Below B w w' := by
  obtain ⟨zs, rfl, m⟩ := h
  exact (allocFull1 m a h0 h1).mono fun e w' ⟨he, m', b⟩ => ⟨he, ⟨_, rfl, m'⟩, b⟩
theorem allocLneg (h : MemL w B p size n st) (a : Int) (h0 : a < 0) :
    Calls Try.prog 12 #[.pointer (some ⟨p, 0, none⟩), .int .i64 a] w fun e w' => e = .returned (.tuple #[.int .i64 0, .int .u16 1]) ∧ MemL w' B p size n st ∧ Below B w w' := by
  obtain ⟨zs, rfl, m⟩ := h
  exact (allocNeg1 m a h0).mono fun e w' ⟨he, m', b⟩ => ⟨he, ⟨_, rfl, m'⟩, b⟩
theorem loadLno (h : MemL w B p size n st) (a : Int) (h0 : a < 0 ∨ n ≤ a) :
    Calls Try.prog 15 #[.pointer (some ⟨p, 0, none⟩), .int .i64 a] w fun e w' => e = .returned (.tuple #[.int .i64 0, .int .u16 10]) ∧ MemL w' B p size n st ∧ Below B w w' := by
  obtain ⟨zs, rfl, m⟩ := h
  exact (loadOut1 m a h0).mono fun e w' ⟨he, m', b⟩ => ⟨he, ⟨_, rfl, m'⟩, b⟩
theorem storeLno (h : MemL w B p size n st) (a x : Int) (h0 : a < 0 ∨ n ≤ a) :
    Calls Try.prog 13 #[.pointer (some ⟨p, 0, none⟩), .int .i64 a, .int .i64 x] w fun e w' => e = .returned (.int .u16 10) ∧ MemL w' B p size n st ∧ Below B w w' := by
  obtain ⟨zs, rfl, m⟩ := h
  exact (storeOut1 m a x h0).mono fun e w' ⟨he, m', b⟩ => ⟨he, ⟨_, rfl, m'⟩, b⟩
theorem swapLno (h : MemL w B p size n st) (a old x : Int) (h0 : a < 0 ∨ n ≤ a) :
    Calls Try.prog 14 #[.pointer (some ⟨p, 0, none⟩), .int .i64 a, .int .i64 old, .int .i64 x] w fun e w' => e = .returned (.tuple #[.bool false, .int .u16 10]) ∧ MemL w' B p size n st ∧ Below B w w' := by
  obtain ⟨zs, rfl, m⟩ := h
  exact (swapOut1 m a old x h0).mono fun e w' ⟨he, m', b⟩ => ⟨he, ⟨_, rfl, m'⟩, b⟩
theorem swapLyes (h : MemL w B p size n st) (a old x : Int) (h0 : 0 ≤ a) (h1 : a < n) (k0 : 0 ≤ st) (k1 : st < 1000000) :
    Calls Try.prog 14 #[.pointer (some ⟨p, 0, none⟩), .int .i64 a, .int .i64 old, .int .i64 x] w fun e w' => ∃ b, e = .returned (.tuple #[.bool b, .int .u16 0]) ∧ MemL w' B p size n (st + 1) ∧ Below B w w' := by
  obtain ⟨zs, rfl, m⟩ := h
  by_cases ho : zs.getD a.toNat 0 = old
  · exact (swap1 m a old x h0 h1 ho k0 k1).mono fun e w' ⟨he, m', b⟩ => ⟨_, he, ⟨_, by simp, m'⟩, b⟩
  · exact (swapNo1 m a old x h0 h1 ho k0 k1).mono fun e w' ⟨he, m', b⟩ => ⟨_, he, ⟨_, rfl, m'⟩, b⟩
end

end Go.Proofs.Yteebmcldmiemnaa
