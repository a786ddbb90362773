/-
  The walk of StackFull: for all numbers it answers true and leaves all old memory as it was.
-/
import Derived.Test.YtjelmaabbediiaaStkAt
namespace Go.Proofs.Ytjelmaabbediiaa
open Go.RowKit

/-- What holds at each round's head. -/
def FullRel (w : World) (p g n : Nat) (v : Int) (i : Value) (wr : World) : Prop := ∃ (k : Nat) (F : Nat → Prop), k ≤ n ∧ i = .int .i64 k ∧ At w F p n (List.replicate k v) wr ∧ RBox wr g 4 0 ∧ ¬ F g

set_option maxRecDepth 100000 in
set_option maxHeartbeats 8000000 in
theorem fullWalk (most v x : Int) (m0 : 0 ≤ most) (m1 : most ≤ 255) (_ : -2147483648 ≤ v) (_ : v ≤ 2147483647) (_ : -2147483648 ≤ x) (_ : x ≤ 2147483647) (w : World) :
    Calls Try.prog 6 #[.int .u8 most, .int .i32 v, .int .i32 x] w fun e w' => e = .returned (.bool true) ∧ Below w.heap.size w w' := by
  have hq := eqSelf
  obtain ⟨n, hn⟩ : ∃ n : Nat, (n : Int) = most % 20 := ⟨(most % 20).toNat, by omega⟩
  have hn20 : n < 20 := by omega
  have HN := Lib.hid hn
  clear hn
  go_enter Try.func6, Try.ntmps6
  go_wp2_with fail
  rw [← HN.out]
  clear HN m0 m1
  refine (newAny n w).mono ?_
  rintro e w1 ⟨rfl, s1, b1⟩
  rw [mostOf_self n (by omega) (by omega)] at s1
  have HA1 := Lib.hid (At.new s1 b1)
  have C := doAny s1 2 x (by omega) (by omega)
  clear b1 s1
  go_wp2_with fail
  refine C.mono ?_
  clear C
  rintro e w2 ⟨rfl, d2⟩
  rw [show stkL n [] 2 x = [] from by simp [stkL]] at d2
  rw [show stkC n [] 2 = 4 from by simp [stkC], show stkV [] 2 = 0 from by simp [stkV]]
  obtain ⟨F2, a2, _, _⟩ := HA1.out.next d2
  have HA2 := Lib.hid a2
  clear d2 a2 HA1
  go_wp2
  generalize hW : w2.alloc (.cells #[.int .u8 4, .int .i32 0] 41) = W
  have HS := Lib.hid (show FullRel w w.heap.size w2.heap.size n v (.int .i64 0) W by
    subst hW
    exact ⟨0, F2, Nat.zero_le _, rfl, HA2.out.fresh ((Below.refl _ _).alloc (Nat.le_refl _) _), RBox.new _ _ _, fun e => by have := HA2.out.lt _ e; omega⟩)
  clear hW HA2
  generalize w2.heap.size = g at *
  go_loopw [10] (fun i wr => FullRel w w.heap.size g n v i wr) (fun i _ => n - (intOf i).toNat)
  case atStart => exact HS.out
  case round =>
    obtain ⟨k, F, hk, rfl, ha, hbx, hng⟩ := hrel
    have HA := Lib.hid ha
    have HX := Lib.hid hbx
    have HG := Lib.hid hng
    clear HS ha hbx hng
    by_cases hlt : k < n
    · have C := pushOk HA.out.1 v (by simp; omega)
      go_wp2_with fail
      refine C.mono ?_
      clear C
      rintro e w3 ⟨rfl, d3⟩
      obtain ⟨F3, a3, wr3, l3⟩ := HA.out.next d3
      have H3 := Lib.hid (show FullRel w w.heap.size g n v (.int .i64 ((k : Int) + 1)) w3 from ⟨k + 1, F3, by omega, by go_num, by rw [List.replicate_succ']; exact a3, HX.out.off HG.out wr3, l3.not HG.out HX.out.lt⟩)
      clear d3 a3 wr3 l3
      go_wp2
      go_roundw
      case rel => exact H3.out
      case measure => simp [intOf]; omega
    · obtain rfl : k = n := by omega
      have C := itemsBeside HA.out.1 k (by simp)
      go_wp2_with fail
      refine C.mono ?_
      clear C
      rintro e w4 ⟨rfl, s4, b4⟩
      have HS4 := Lib.hid s4
      have HA4 := Lib.hid (HA.out.fresh b4)
      have HX4 := Lib.hid (HX.out.keep b4)
      clear s4 b4 HA HX
      have C := doAny HA4.out.1 1 x (by omega) (by omega)
      go_wp2_with fail
      refine C.mono ?_
      clear C
      rintro e w5 ⟨rfl, d5⟩
      rw [show stkL k (List.replicate k v) 1 x = List.replicate k v from by simp [stkL]] at d5
      rw [show stkC k (List.replicate k v) 1 = 3 from by simp [stkC], show stkV (List.replicate k v) 1 = 0 from by simp [stkV]]
      obtain ⟨F5, a5, wr5, l5⟩ := HA4.out.next d5
      have HA5 := Lib.hid a5
      have HX5 := Lib.hid (HX4.out.off HG.out wr5)
      have HG5 := Lib.hid (l5.not HG.out HX4.out.lt)
      have HS5 := Lib.hid (HS4.out.off wr5 l5)
      clear d5 a5 wr5 l5 HA4 HX4 HG HS4
      go_wp2_with fail
      generalize hW : w5.alloc (.cells #[.int .u8 3, .int .i32 0] 41) = W6
      have hb6 : Below w5.heap.size w5 W6 := by subst hW; exact (Below.refl _ _).alloc (Nat.le_refl _) _
      have HY6 := Lib.hid (show RBox W6 w5.heap.size 3 0 by subst hW; exact RBox.new _ _ _)
      have HH6 := Lib.hid (show ¬ F5 w5.heap.size from fun e => by have := HA5.out.lt _ e; omega)
      have HA6 := Lib.hid (HA5.out.fresh hb6)
      have HX6 := Lib.hid (HX5.out.keep hb6)
      have HS6 := Lib.hid (HS5.out.keep hb6)
      clear hW hb6 HA5 HX5 HS5
      generalize w5.heap.size = h at *
      have C := doAny HA6.out.1 3 x (by omega) (by omega)
      refine C.mono ?_
      clear C
      rintro e w7 ⟨rfl, d7⟩
      rw [show stkL k (List.replicate k v) 3 x = List.replicate k v from by simp [stkL]] at d7
      rw [show stkC k (List.replicate k v) 3 = 5 from by simp [stkC], show stkV (List.replicate k v) 3 = 0 from by simp [stkV]]
      obtain ⟨F7, a7, wr7, l7⟩ := HA6.out.next d7
      have HA7 := Lib.hid a7
      have HX7 := Lib.hid (HX6.out.off HG5.out wr7)
      have HY7 := Lib.hid (HY6.out.off HH6.out wr7)
      have HS7 := Lib.hid (HS6.out.off wr7 l7)
      clear d7 a7 wr7 l7 HA6 HX6 HG5 HS6 HY6 HH6
      go_wp2_with fail
      generalize hW : w7.alloc (.cells #[.int .u8 5, .int .i32 0] 41) = W8
      have hb8 : Below w7.heap.size w7 W8 := by subst hW; exact (Below.refl _ _).alloc (Nat.le_refl _) _
      have HZ8 := Lib.hid (show RBox W8 w7.heap.size 5 0 by subst hW; exact RBox.new _ _ _)
      have HA8 := Lib.hid (HA7.out.fresh hb8)
      have HX8 := Lib.hid (HX7.out.keep hb8)
      have HY8 := Lib.hid (HY7.out.keep hb8)
      have HS8 := Lib.hid (HS7.out.keep hb8)
      clear hW hb8 HA7 HX7 HY7 HS7
      generalize w7.heap.size = j at *
      refine (known W8).mono ?_
      rintro e w9 ⟨rfl, b9⟩
      have HA9 := Lib.hid (HA8.out.fresh b9)
      have HS9 := Lib.hid (HS8.out.keep b9)
      have x0 := (HX8.out.keep b9).c0
      have x1 := (HX8.out.keep b9).c1
      have y0 := (HY8.out.keep b9).c0
      have y1 := (HY8.out.keep b9).c1
      have z0 := (HZ8.out.keep b9).c0
      have z1 := (HZ8.out.keep b9).c1
      clear b9 HA8 HX8 HY8 HZ8 HS8
      have C := itemsBeside HA9.out.1 k (by simp)
      go_wp2_with fail
      clear x0 x1 y0 y1 z0 z1
      refine C.mono ?_
      clear C
      rintro e w10 ⟨rfl, s10, b10⟩
      have C := sameEq w10 _ _ k k k _ (HS9.out.keep b10).1 s10.1 (by omega)
      have HA10 := Lib.hid (HA9.out.fresh b10)
      clear s10 b10 HA9 HS9
      go_wp2_with fail
      refine C.mono ?_
      clear C
      rintro e w11 ⟨rfl, b11⟩
      have HA11 := Lib.hid (HA10.out.fresh b11)
      clear b11 HA10
      go_wp2
      go_ret
      exact ⟨rfl, HA11.out.2.1⟩

end Go.Proofs.Ytjelmaabbediiaa
