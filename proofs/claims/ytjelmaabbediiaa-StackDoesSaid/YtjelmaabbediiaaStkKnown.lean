/-
  The calls of package stack where one stack is looked at; the example that every statement asks ('known'); what reaperref04.Same tells of equal lists. Conditions: a stack as Stk1 says; lists of at most a thousand.
-/
import Derived.Test.YtjelmaabbediiaaStkEach
namespace Go.Proofs.Ytjelmaabbediiaa
open Go.RowKit

/-- A stack all of whose blocks stand from B on. -/
def Stk1 (w : World) (B p : Nat) (most : Int) (zs : List Int) : Prop := ∃ F, Stk w F p most zs ∧ ∀ g, F g → B ≤ g

section
variable {w w' : World} {F : Nat → Prop} {B p : Nat} {most : Int} {zs : List Int}

theorem Did.one {zs' : List Int} (h : Stk w F p most zs) (hF : ∀ g, F g → B ≤ g) (d : Did F p most zs' w w') : Stk1 w' B p most zs' ∧ Below B w w' := by
  obtain ⟨F', s, wr, l⟩ := d
  have hB : B ≤ w.heap.size := Nat.le_of_lt (Nat.lt_of_le_of_lt (hF p h.in) h.lt)
  refine ⟨⟨F', s, fun g hg => ?_⟩, wr.below hB hF⟩
  rcases l g hg with h1 | h1
  · exact hF g h1
  · omega
theorem Stk1.fresh (h : Stk1 w B p most zs) (hb : Below w.heap.size w w') : Stk1 w' B p most zs := by obtain ⟨F, s, hF⟩ := h; exact ⟨F, s.fresh hb, hF⟩
theorem Stk1.len (h : Stk1 w B p most zs) : zs.length ≤ 1000 := by obtain ⟨F, s, _⟩ := h; exact s.len
theorem Stk1.room (h : Stk1 w B p most zs) : (zs.length : Int) ≤ most := by obtain ⟨F, s, _⟩ := h; exact s.room
theorem Stk1.base (h : Stk1 w B p most zs) : B ≤ w.heap.size := by obtain ⟨F, s, hF⟩ := h; exact Nat.le_of_lt (Nat.lt_of_le_of_lt (hF p s.in) s.lt)

theorem new1 (n : Int) (w : World) :
    Calls Try.prog 12 #[.int .i64 n] w fun e w' => e = .returned (.pointer (some ⟨w.heap.size, 0, none⟩)) ∧ Stk1 w' w.heap.size w.heap.size (mostOf n) [] ∧ Below w.heap.size w w' :=
  (newAny n w).mono fun _ _ ⟨he, s, b⟩ => ⟨he, ⟨_, s, fun _ hg => hg.1⟩, b⟩
theorem len1 (h : Stk1 w B p most zs) : Calls Try.prog 15 #[.pointer (some ⟨p, 0, none⟩)] w fun e w' => e = .returned (.int .i64 zs.length) ∧ w = w' := by
  obtain ⟨F, s, _⟩ := h; exact lenAny s
theorem most1 (h : Stk1 w B p most zs) : Calls Try.prog 20 #[.pointer (some ⟨p, 0, none⟩)] w fun e w' => e = .returned (.int .i64 most) ∧ w = w' := by
  obtain ⟨F, s, _⟩ := h; exact mostAny s
theorem items1 (h : Stk1 w B p most zs) : Calls Try.prog 18 #[.pointer (some ⟨p, 0, none⟩)] w (Told w zs) := by
  obtain ⟨F, s, _⟩ := h; exact itemsAny s
theorem pushFull1 (h : Stk1 w B p most zs) (x : Int) (hf : ¬ (zs.length : Int) < most) :
    Calls Try.prog 13 #[.pointer (some ⟨p, 0, none⟩), .int .i32 x] w fun e w' => e = .returned (.bool false) ∧ w = w' := by
  obtain ⟨F, s, _⟩ := h; exact pushFull s x hf
theorem push1 (h : Stk1 w B p most zs) (x : Int) (hf : (zs.length : Int) < most) :
    Calls Try.prog 13 #[.pointer (some ⟨p, 0, none⟩), .int .i32 x] w fun e w' => e = .returned (.bool true) ∧ Stk1 w' B p most (zs ++ [x]) ∧ Below B w w' := by
  obtain ⟨F, s, hF⟩ := h
  exact (pushOk s x hf).mono fun _ _ ⟨he, d⟩ => ⟨he, d.one s hF⟩
theorem popNone1 (h : Stk1 w B p most []) :
    Calls Try.prog 14 #[.pointer (some ⟨p, 0, none⟩)] w fun e w' => e = .returned (.tuple #[.int .i32 0, .bool false]) ∧ w = w' := by
  obtain ⟨F, s, _⟩ := h; exact popNone s
theorem pop1 (y : Int) (h : Stk1 w B p most (zs ++ [y])) :
    Calls Try.prog 14 #[.pointer (some ⟨p, 0, none⟩)] w fun e w' => e = .returned (.tuple #[.int .i32 y, .bool true]) ∧ Stk1 w' B p most zs ∧ Below B w w' := by
  obtain ⟨F, s, hF⟩ := h
  exact (popOk y s).mono fun _ _ ⟨he, d⟩ => ⟨he, d.one s hF⟩
theorem do1 (h : Stk1 w B p most zs) (k x : Int) (k0 : 0 ≤ k) (k1 : k ≤ 255) :
    Calls Try.prog 21 #[.pointer (some ⟨p, 0, none⟩), .agg #[.int .u8 k, .int .i32 x]] w fun e w' => e = .returned (.agg #[.int .u8 (stkC most zs k), .int .i32 (stkV zs k)]) ∧ Stk1 w' B p most (stkL most zs k x) ∧ Below B w w' := by
  obtain ⟨F, s, hF⟩ := h
  exact (doAny s k x k0 k1).mono fun _ _ ⟨he, d⟩ => ⟨he, d.one s hF⟩
end

/-- A struct equals itself. -/
theorem eqSelf (a b : Int) (w : World) : (Op.equalIn 10000 41 (.agg #[.int .u8 a, .int .i32 b]) (.agg #[.int .u8 a, .int .i32 b])).run Try.prog w = .ok true w := by
  have hS : Try.prog.underlying 41 = some (.struct (Try.prog.fieldsOf 41)) := by kernel_rfl
  have hp : Try.prog.stoodInHeld 41 = false := by kernel_rfl
  rw [show (10000 : Nat) = 9998 + 1 + 1 from rfl, run_equalIn_agg w (9998 + 1) 41 _ _ hS hp]
  have u5 := Try.underlying5
  have u21 := Try.underlying21
  have a5 := Try.isAgg5
  have z5 := Try.sizeOf5
  have a21 := Try.isAgg21
  have z21 := Try.sizeOf21
  simp only [Program.fieldsOf, Try.underlying41]
  go_simp

set_option maxRecDepth 100000 in
set_option maxHeartbeats 1600000 in
theorem known (w : World) : Calls Try.prog 9 #[] w fun e w' => e = .returned (.bool true) ∧ Below w.heap.size w w' := by
  have hq := eqSelf
  go_enter Try.func9, Try.ntmps9
  go_wp2_with fail
  refine (new1 1 w).mono ?_
  rintro e w1 ⟨rfl, m1, b1⟩
  have C := push1 m1 5 (by decide)
  have HB := Lib.hid b1
  clear b1 m1
  go_wp2_with fail
  refine C.mono ?_
  clear C
  rintro e w2 ⟨rfl, m2, b2⟩
  have C := pushFull1 m2 6 (by decide)
  have D := pop1 (zs := []) 5 m2
  have HB := Lib.hid (HB.out.trans b2)
  clear b2 m2
  go_wp2_with fail
  refine C.mono ?_
  clear C
  rintro e w' ⟨rfl, rfl⟩
  go_wp2_with fail
  refine D.mono ?_
  clear D
  rintro e w3 ⟨rfl, m3, b3⟩
  have C := do1 m3 2 0 (by omega) (by omega)
  have HB := Lib.hid (HB.out.trans b3)
  clear b3 m3
  go_wp2_with fail
  refine C.mono ?_
  clear C
  rintro e w4 ⟨rfl, m4, b4⟩
  have C := do1 m4 7 0 (by omega) (by omega)
  rw [show stkC (mostOf 1) [] 2 = 4 from by decide, show stkV [] 2 = 0 from by decide]
  have HB := Lib.hid (HB.out.trans b4)
  clear b4 m4
  go_wp2_with fail
  refine C.mono ?_
  clear C
  rintro e w5 ⟨rfl, m5, b5⟩
  rw [show stkC (mostOf 1) (stkL (mostOf 1) [] 2 0) 7 = 5 from by decide, show stkV (stkL (mostOf 1) [] 2 0) 7 = 0 from by decide]
  have HB := Lib.hid (HB.out.trans b5)
  clear b5 m5
  go_wp2
  go_ret
  exact ⟨rfl, HB.out⟩

set_option maxHeartbeats 1600000 in
theorem sameEq (w : World) (a b : Option Addr) (n c d : Nat) (zs : List Int) (ha : Reads .i32 w a n zs) (hb : Reads .i32 w b n zs) (hl : n ≤ 1000) :
    Calls Try.prog 19 #[.slice a n c, .slice b n d] w fun e w' => e = .returned (.bool true) ∧ Below w.heap.size w w' := by
  have HA := Lib.hid ha
  have HB := Lib.hid hb
  clear ha hb
  go_enter Try.func19, Try.ntmps19
  go_wp2
  go_loopw [5] (fun i wr => ∃ k : Nat, k ≤ n ∧ i = .int .i64 k ∧ Below w.heap.size w wr) (fun i _ => n - (intOf i).toNat)
  case atStart => exact ⟨0, Nat.zero_le _, rfl, Below.refl _ _⟩
  case round =>
    obtain ⟨k, hk, rfl, hbe⟩ := hrel
    have HE := Lib.hid hbe
    by_cases hlt : k < n
    · obtain ⟨b1, o1, rfl, l1, h1⟩ := (HA.out.keep hbe).2 (by omega)
      obtain ⟨b2, o2, rfl, l2, h2⟩ := (HB.out.keep hbe).2 (by omega)
      have c1 := h1 k hlt
      have c2 := h2 k hlt
      have i0 : (k : Int) < n := by omega
      clear h1 h2 hbe
      generalize zs.getD k 0 = e1 at *
      go_wp2
      go_quiet (fail)
      go_wp2
      go_roundw
      case rel => exact ⟨k + 1, by omega, by go_num, below_drewN HE.out _⟩
      case measure => simp [intOf]; omega
    · clear hbe
      go_wp2
      go_ret
      exact ⟨rfl, HE.out⟩

end Go.Proofs.Ytjelmaabbediiaa
