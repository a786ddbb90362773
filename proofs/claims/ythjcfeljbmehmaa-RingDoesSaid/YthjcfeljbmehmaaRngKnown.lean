/-
  The calls of package ring where one deque is looked at; the example that every statement asks ('known'); what reaperref04.Same tells of equal lists. Conditions: a deque as Rng1 says; lists of at most a thousand.
-/
import Derived.Test.YthjcfeljbmehmaaRngDo
namespace Go.Proofs.Ythjcfeljbmehmaa
open Go.RowKit

/-- A deque all of whose blocks stand from B on. -/
def Rng1 (w : World) (B p : Nat) (most : Int) (zs : List Int) : Prop := ∃ F, Rng w F p most zs ∧ ∀ g, F g → B ≤ g

section
variable {w w' : World} {F : Nat → Prop} {B p : Nat} {most : Int} {zs : List Int}

theorem Did.one {zs' : List Int} (h : Rng w F p most zs) (hF : ∀ g, F g → B ≤ g) (d : Did F p most zs' w w') : Rng1 w' B p most zs' ∧ Below B w w' := by
  obtain ⟨F', s, wr, l⟩ := d
  have hB : B ≤ w.heap.size := Nat.le_of_lt (Nat.lt_of_le_of_lt (hF p h.in) h.lt)
  refine ⟨⟨F', s, fun g hg => ?_⟩, wr.below hB hF⟩
  rcases l g hg with h1 | h1
  · exact hF g h1
  · omega
theorem Rng1.fresh (h : Rng1 w B p most zs) (hb : Below w.heap.size w w') : Rng1 w' B p most zs := by obtain ⟨F, s, hF⟩ := h; exact ⟨F, s.fresh hb, hF⟩
theorem Rng1.len (h : Rng1 w B p most zs) : zs.length ≤ 1000 := by obtain ⟨F, s, _⟩ := h; exact s.len
theorem Rng1.room (h : Rng1 w B p most zs) : (zs.length : Int) ≤ most := by obtain ⟨F, s, _⟩ := h; exact s.room
theorem Rng1.base (h : Rng1 w B p most zs) : B ≤ w.heap.size := by obtain ⟨F, s, hF⟩ := h; exact Nat.le_of_lt (Nat.lt_of_le_of_lt (hF p s.in) s.lt)

theorem new1 (n : Int) (w : World) :
    Calls Try.prog 13 #[.int .i64 n] w fun e w' => ∃ q, e = .returned (.pointer (some ⟨q, 0, none⟩)) ∧ Rng1 w' w.heap.size q (mostOf n) [] ∧ Below w.heap.size w w' :=
  (newAny n w).mono fun _ _ ⟨q, he, s, b⟩ => ⟨q, he, ⟨_, s, fun _ hg => hg.1⟩, b⟩
theorem len1 (h : Rng1 w B p most zs) : Calls Try.prog 17 #[.pointer (some ⟨p, 0, none⟩)] w fun e w' => e = .returned (.int .i64 zs.length) ∧ w = w' := by
  obtain ⟨F, s, _⟩ := h; exact lenAny s
theorem most1 (h : Rng1 w B p most zs) : Calls Try.prog 23 #[.pointer (some ⟨p, 0, none⟩)] w fun e w' => e = .returned (.int .i64 most) ∧ w = w' := by
  obtain ⟨F, s, _⟩ := h; exact mostAny s
theorem items1 (h : Rng1 w B p most zs) : Calls Try.prog 16 #[.pointer (some ⟨p, 0, none⟩)] w (Told w zs) := by
  obtain ⟨F, s, _⟩ := h; exact itemsAny s
theorem pushL1 (h : Rng1 w B p most zs) (x : Int) (hf : (zs.length : Int) < most) :
    Calls Try.prog 25 #[.pointer (some ⟨p, 0, none⟩), .int .i32 x] w fun e w' => e = .returned (.bool true) ∧ Rng1 w' B p most (x :: zs) ∧ Below B w w' := by
  obtain ⟨F, s, hF⟩ := h
  exact (pushLOk s x hf).mono fun _ _ ⟨he, d⟩ => ⟨he, d.one s hF⟩
theorem pushR1 (h : Rng1 w B p most zs) (x : Int) (hf : (zs.length : Int) < most) :
    Calls Try.prog 19 #[.pointer (some ⟨p, 0, none⟩), .int .i32 x] w fun e w' => e = .returned (.bool true) ∧ Rng1 w' B p most (zs ++ [x]) ∧ Below B w w' := by
  obtain ⟨F, s, hF⟩ := h
  exact (pushROk s x hf).mono fun _ _ ⟨he, d⟩ => ⟨he, d.one s hF⟩
theorem popL1 (z : Int) (h : Rng1 w B p most (z :: zs)) :
    Calls Try.prog 18 #[.pointer (some ⟨p, 0, none⟩)] w fun e w' => e = .returned (.tuple #[.int .i32 z, .bool true]) ∧ Rng1 w' B p most zs ∧ Below B w w' := by
  obtain ⟨F, s, hF⟩ := h
  exact (popLOk z s).mono fun _ _ ⟨he, d⟩ => ⟨he, d.one s hF⟩
theorem popR1 (y : Int) (h : Rng1 w B p most (zs ++ [y])) :
    Calls Try.prog 24 #[.pointer (some ⟨p, 0, none⟩)] w fun e w' => e = .returned (.tuple #[.int .i32 y, .bool true]) ∧ Rng1 w' B p most zs ∧ Below B w w' := by
  obtain ⟨F, s, hF⟩ := h
  exact (popROk y s).mono fun _ _ ⟨he, d⟩ => ⟨he, d.one s hF⟩
theorem do1 (h : Rng1 w B p most zs) (k x : Int) :
    Calls Try.prog 14 #[.pointer (some ⟨p, 0, none⟩), .agg #[.int .u8 k, .int .i32 x]] w fun e w' => e = .returned (.agg #[.int .u8 (dqC most zs k), .int .i32 (dqV zs k)]) ∧ Rng1 w' B p most (dqL most zs k x) ∧ Below B w w' := by
  obtain ⟨F, s, hF⟩ := h
  exact (doAny s k x).mono fun _ _ ⟨he, d⟩ => ⟨he, d.one s hF⟩
end

/-- A struct equals itself. -/
theorem eqSelf (a b : Int) (w : World) : (Op.equalIn 10000 31 (.agg #[.int .u8 a, .int .i32 b]) (.agg #[.int .u8 a, .int .i32 b])).run Try.prog w = .ok true w := by
  have hS : Try.prog.underlying 31 = some (.struct (Try.prog.fieldsOf 31)) := by kernel_rfl
  have hp : Try.prog.stoodInHeld 31 = false := by kernel_rfl
  rw [show (10000 : Nat) = 9998 + 1 + 1 from rfl, run_equalIn_agg w (9998 + 1) 31 _ _ hS hp]
  have u5 := Try.underlying5
  have u21 := Try.underlying21
  have a5 := Try.isAgg5
  have z5 := Try.sizeOf5
  have a21 := Try.isAgg21
  have z21 := Try.sizeOf21
  simp only [Program.fieldsOf, Try.underlying31]
  go_simp

set_option maxRecDepth 100000 in
set_option maxHeartbeats 1600000 in
theorem known (w : World) : Calls Try.prog 10 #[] w fun e w' => e = .returned (.bool true) ∧ Below w.heap.size w w' := by
  have hq := eqSelf
  go_enter Try.func10, Try.ntmps10
  go_wp2_with fail
  refine (new1 2 w).mono ?_
  rintro e w1 ⟨q, rfl, m1, b1⟩
  have C := pushL1 m1 1 (by decide)
  have HB := Lib.hid b1
  clear b1 m1
  go_wp2_with fail
  refine C.mono ?_
  clear C
  rintro e w2 ⟨rfl, m2, b2⟩
  have C := pushL1 m2 2 (by decide)
  have HB := Lib.hid (HB.out.trans b2)
  clear b2 m2
  go_wp2_with fail
  refine C.mono ?_
  clear C
  rintro e w3 ⟨rfl, m3, b3⟩
  have C := popR1 (zs := [2]) 1 m3
  have HB := Lib.hid (HB.out.trans b3)
  clear b3 m3
  go_wp2_with fail
  refine C.mono ?_
  clear C
  rintro e w4 ⟨rfl, m4, b4⟩
  have C := len1 m4
  have D := do1 m4 3 0
  rw [show dqC (mostOf 2) [2] 3 = 2 from by decide, show dqV [2] 3 = 2 from by decide] at D
  have HB := Lib.hid (HB.out.trans b4)
  clear b4 m4
  go_wp2_with fail
  refine C.mono ?_
  clear C
  rintro e w' ⟨rfl, rfl⟩
  go_wp2_with fail
  refine D.mono ?_
  clear D
  rintro e w5 ⟨rfl, m5, b5⟩
  have C := do1 m5 0 0
  rw [show dqC (mostOf 2) (dqL (mostOf 2) [2] 3 0) 0 = 5 from by decide, show dqV (dqL (mostOf 2) [2] 3 0) 0 = 0 from by decide] at C
  have HB := Lib.hid (HB.out.trans b5)
  clear b5 m5
  go_wp2_with fail
  refine C.mono ?_
  clear C
  rintro e w6 ⟨rfl, m6, b6⟩
  have HB := Lib.hid (HB.out.trans b6)
  clear b6 m6
  go_wp2
  go_ret
  exact ⟨rfl, HB.out⟩

set_option maxHeartbeats 1600000 in
theorem sameEq (w : World) (a b : Option Addr) (n c d : Nat) (zs : List Int) (ha : Reads .i32 w a n zs) (hb : Reads .i32 w b n zs) (hl : n ≤ 1000) :
    Calls Try.prog 20 #[.slice a n c, .slice b n d] w fun e w' => e = .returned (.bool true) ∧ Below w.heap.size w w' := by
  have HA := Lib.hid ha
  have HB := Lib.hid hb
  clear ha hb
  go_enter Try.func20, Try.ntmps20
  go_wp2
  go_loopw [5] (fun i wr => ∃ k : Nat, k ≤ n ∧ i = .int .i64 k ∧ Below w.heap.size w wr) (fun i _ => n - (intOf i).toNat)
  case atStart => exact ⟨0, Nat.zero_le _, rfl, Below.refl _ _⟩
  case round =>
    obtain ⟨k, hk, rfl, hbe⟩ := hrel
    have HE := Lib.hid hbe
    by_cases hlt : k < n
    · obtain ⟨b1, o1, rfl, l1, h1⟩ := (HA.out.keep hbe).2 (by omega)
      obtain ⟨b2, o2, rfl, l2, h2⟩ := (HB.out.keep hbe).2 (by omega)
      have c1 := h1 k hlt
      have c2 := h2 k hlt
      have i0 : (k : Int) < n := by omega
      clear h1 h2 hbe
      generalize zs.getD k 0 = e1 at *
      go_wp2
      go_quiet (fail)
      go_wp2
      go_roundw
      case rel => exact ⟨k + 1, by omega, by go_num, below_drewN HE.out _⟩
      case measure => simp [intOf]; omega
    · clear hbe
      go_wp2
      go_ret
      exact ⟨rfl, HE.out⟩

end Go.Proofs.Ythjcfeljbmehmaa
