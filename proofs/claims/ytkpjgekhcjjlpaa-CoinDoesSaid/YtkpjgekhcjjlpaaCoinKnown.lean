/-
  The calls of package coin where one coin is looked at; the example that every statement asks ('known'). Conditions: a coin as Coin1 says.
-/
import Derived.Test.YtkpjgekhcjjlpaaCoinF
namespace Go.Proofs.Ytkpjgekhcjjlpaa
open Go.RowKit

/-- A coin all of whose blocks stand from B on. -/
def Coin1 (w : World) (B p : Nat) (bs : List Bool) : Prop := ∃ F, Coin w F p bs ∧ ∀ g, F g → B ≤ g

section
variable {w w' : World} {F : Nat → Prop} {B p : Nat} {bs : List Bool}

theorem Did.one {bs' : List Bool} (h : Coin w F p bs) (hF : ∀ g, F g → B ≤ g) (d : Did F p bs' w w') : Coin1 w' B p bs' ∧ Below B w w' := by
  obtain ⟨F', s, wr, l⟩ := d
  have hB : B ≤ w.heap.size := Nat.le_of_lt (Nat.lt_of_le_of_lt (hF p h.in) h.lt)
  refine ⟨⟨F', s, fun g hg => ?_⟩, wr.below hB hF⟩
  rcases l g hg with h1 | h1
  · exact hF g h1
  · omega
theorem Coin1.fresh (h : Coin1 w B p bs) (hb : Below w.heap.size w w') : Coin1 w' B p bs := by obtain ⟨F, s, hF⟩ := h; exact ⟨F, s.fresh hb, hF⟩
theorem Coin1.drew (h : Coin1 w B p bs) : Coin1 w.drew B p bs := h.fresh (Below.refl _ _).drew
theorem Coin1.len (h : Coin1 w B p bs) : bs.length ≤ 20000 := by obtain ⟨F, s, _⟩ := h; exact s.len
theorem Coin1.base (h : Coin1 w B p bs) : B ≤ w.heap.size := by obtain ⟨F, s, hF⟩ := h; exact Nat.le_of_lt (Nat.lt_of_le_of_lt (hF p s.in) s.lt)

theorem new1 (w : World) :
    Calls Try.prog 10 #[] w fun e w' => e = .returned (.pointer (some ⟨w.heap.size, 0, none⟩)) ∧ Coin1 w' w.heap.size w.heap.size [] ∧ Below w.heap.size w w' :=
  (newAny w).mono fun _ _ ⟨he, s, b⟩ => ⟨he, ⟨_, s, fun _ hg => hg.1⟩, b⟩
theorem left1 (h : Coin1 w B p bs) : Calls Try.prog 18 #[.pointer (some ⟨p, 0, none⟩)] w fun e w' => e = .returned (.int .i64 bs.length) ∧ w = w' := by
  obtain ⟨F, s, _⟩ := h; exact leftAny s
theorem toss1 (h : Coin1 w B p bs) :
    Calls Try.prog 14 #[.pointer (some ⟨p, 0, none⟩)] w fun e w' => e = .returned (.bool (bs.headD false)) ∧ Coin1 w' B p bs.tail ∧ Below B w w' := by
  obtain ⟨F, s, hF⟩ := h
  exact (tossAny s).mono fun _ _ ⟨he, d⟩ => ⟨he, d.one s hF⟩
theorem height1 (h : Coin1 w B p bs) :
    Calls Try.prog 16 #[.pointer (some ⟨p, 0, none⟩)] w fun e w' => e = .returned (.int .i64 ((up bs : Int) + 1)) ∧ Coin1 w' B p (left bs) ∧ Below B w w' := by
  obtain ⟨F, s, hF⟩ := h
  exact (heightAny s).mono fun _ _ ⟨he, d⟩ => ⟨he, d.one s hF⟩
theorem feed1 (h : Coin1 w B p bs) {ao : Option Addr} {n cap : Nat} {zs : List Int} (hr : Reads .u8 w ao n zs) (ho : 0 < n → ∀ a, ao = some a → a.block < B) (hz : ∀ z ∈ zs, 0 ≤ z ∧ z ≤ 255) (hn : n ≤ 1000000) :
    Calls Try.prog 11 #[.pointer (some ⟨p, 0, none⟩), .slice ao n cap] w fun e w' => e = .returned (.tuple #[]) ∧ Coin1 w' B p (feedL bs zs) ∧ Below B w w' := by
  obtain ⟨F, s, hF⟩ := h
  exact (feedAny s hr (fun h a e hf => by have := ho h a e; have := hF _ hf; omega) hz hn).mono fun _ _ ⟨he, d⟩ => ⟨he, d.one s hF⟩
/-- What is fed lies in new memory. -/
theorem feedNew1 {W : World} (h : Coin1 w B p bs) (hb : Below w.heap.size w W) {ao : Option Addr} {n cap : Nat} {zs : List Int} (hr : Reads .u8 W ao n zs) (ho : 0 < n → ∀ a, ao = some a → w.heap.size ≤ a.block) (hz : ∀ z ∈ zs, 0 ≤ z ∧ z ≤ 255) (hn : n ≤ 1000000) :
    Calls Try.prog 11 #[.pointer (some ⟨p, 0, none⟩), .slice ao n cap] W fun e w' => e = .returned (.tuple #[]) ∧ Coin1 w' B p (feedL bs zs) ∧ Below B W w' := by
  obtain ⟨F, s, hF⟩ := h
  exact (feedAny (s.fresh hb) hr (fun h a e hf => by have := ho h a e; have := s.foot _ hf; omega) hz hn).mono fun _ _ ⟨he, d⟩ => ⟨he, d.one (s.fresh hb) hF⟩
end

/-- One byte, laid in new memory. -/
theorem litReads (w : World) (z : Int) (t : TypeId) : Reads .u8 (w.alloc (.cells #[.int .u8 z] t)) (some ⟨w.heap.size, 0, none⟩) 1 [z] := by
  refine ⟨rfl, fun _ => ⟨_, _, rfl, by simp, fun i hi => ?_⟩⟩
  obtain rfl : i = 0 := by omega
  simp

theorem feedLit1 {w : World} {B p : Nat} {bs : List Bool} (h : Coin1 w B p bs) (z : Int) (z0 : 0 ≤ z) (z1 : z ≤ 255) (t : TypeId) :
    Calls Try.prog 11 #[.pointer (some ⟨p, 0, none⟩), .slice (some ⟨w.heap.size, 0, none⟩) 1 1] (w.alloc (.cells #[.int .u8 z] t)) fun e w' => e = .returned (.tuple #[]) ∧ Coin1 w' B p (feedL bs [z]) ∧ Below B w w' :=
  (feedNew1 h ((Below.refl _ _).alloc (Nat.le_refl _) _) (litReads w z t) (fun _ a e => by injection e with e; subst e; exact Nat.le_refl _) (by simpa using ⟨z0, z1⟩) (by omega)).mono fun _ _ ⟨he, c, b⟩ =>
    ⟨he, c, ((Below.refl B w).alloc h.base _).trans b⟩

theorem feed5 : feedL [] [5] = [true, false, true, false, false, false, false, false] := by
  rw [feedL_small _ _ (by simp)]
  decide

set_option maxHeartbeats 1600000 in
theorem known (w : World) : Calls Try.prog 9 #[] w fun e w' => e = .returned (.bool true) ∧ Below w.heap.size w w' := by
  go_enter Try.func9, Try.ntmps9
  go_wp2_with fail
  refine (new1 w).mono ?_
  rintro e w1 ⟨rfl, m1, b1⟩
  have C := feedLit1 m1 5 (by decide) (by decide) 5
  rw [feed5] at C
  have HB := Lib.hid b1
  clear b1 m1
  go_wp2_with fail
  refine C.mono ?_
  clear C
  rintro e w2 ⟨rfl, m2, b2⟩
  have C := height1 m2
  rw [show up [true, false, true, false, false, false, false, false] = 1 from by decide, show left [true, false, true, false, false, false, false, false] = [true, false, false, false, false, false] from by decide] at C
  have HB := Lib.hid (HB.out.trans b2)
  clear b2 m2
  go_wp2_with fail
  refine C.mono ?_
  clear C
  rintro e w3 ⟨rfl, m3, b3⟩
  have C := height1 m3
  rw [show up [true, false, false, false, false, false] = 1 from by decide, show left [true, false, false, false, false, false] = [false, false, false, false] from by decide] at C
  have HB := Lib.hid (HB.out.trans b3)
  clear b3 m3
  go_wp2_with fail
  refine C.mono ?_
  clear C
  rintro e w4 ⟨rfl, m4, b4⟩
  have C := left1 m4
  have D := toss1 m4
  have HB := Lib.hid (HB.out.trans b4)
  clear b4 m4
  go_wp2_with fail
  refine C.mono ?_
  clear C
  rintro e w' ⟨rfl, rfl⟩
  go_wp2_with fail
  refine D.mono ?_
  clear D
  rintro e w5 ⟨rfl, m5, b5⟩
  have C := left1 m5
  have HB := Lib.hid (HB.out.trans b5)
  clear b5 m5
  go_wp2_with fail
  refine C.mono ?_
  clear C
  rintro e w' ⟨rfl, rfl⟩
  go_wp2
  go_ret
  exact ⟨rfl, HB.out⟩

end Go.Proofs.Ytkpjgekhcjjlpaa
