/-
  The walk of CoinMost: for all numbers it answers true and leaves all old memory as it was.
-/
import Derived.Test.YtkpjgekhcjjlpaaCoinAt
namespace Go.Proofs.Ytkpjgekhcjjlpaa
open Go.RowKit

theorem infoU8 : (Try.prog.info? 5).map (fun i => (i.zero, i.size, i.bytes)) = some (some (.int .u8 0), 1, 1) := by kernel_rfl

/-- New bytes, all 0. -/
theorem noughts {w w1 : World} {g m : Nat} (ho : w1.ownsRow w.heap.size 5 1 (.slice (some ⟨g, 0, none⟩) m m) m (madeCells (Value.int .u8 0).cells (m * 1)).toList) (hg : w.grownBy w1 none) :
    Reads .u8 w1 (some ⟨g, 0, none⟩) m (List.replicate m 0) ∧ (0 < m → ∀ x, (some (⟨g, 0, none⟩ : Addr)) = some x → w.heap.size ≤ x.block) ∧ Below w.heap.size w w1 := by
  have h2 : w1.ownsRow w.heap.size 5 1 (.slice (some ⟨g, 0, none⟩) m m) m ((List.replicate m (0 : Int)).map (Value.int .u8)) := by
    rw [show (Value.int .u8 0).cells = #[Value.int .u8 0] from rfl, Nat.mul_one, toList_madeCells_one] at ho
    simpa using ho
  obtain ⟨ao, cap, e, hr, _, hb⟩ := reads_own h2
  simp only [Value.slice.injEq] at e
  obtain ⟨rfl, _, _⟩ := e
  exact ⟨hr, fun _ x hx => hb x hx, (Below.refl _ _).grown hg (Nat.le_refl _) (by simp)⟩

set_option maxHeartbeats 8000000 in
theorem mostWalk (a b : Int) (a0 : 0 ≤ a) (a1 : a ≤ 65535) (b0 : 0 ≤ b) (b1 : b ≤ 255) (w : World) :
    Calls Try.prog 6 #[.int .u16 a, .int .u8 b] w fun e w' => e = .returned (.bool true) ∧ Below w.heap.size w w' := by
  obtain ⟨m, hm⟩ : ∃ m : Nat, (m : Int) = 2490 + a % 20 := ⟨(2490 + a % 20).toNat, by omega⟩
  have hm1 : 2490 ≤ m := by omega
  have hm2 : m ≤ 2509 := by omega
  have HM := Lib.hid hm
  obtain ⟨i0, hi, hz0, hz1, hz2⟩ := info_parts infoU8
  have H2 := Lib.hid hz2
  clear hm hz2
  go_enter Try.func6, Try.ntmps6
  go_wp2_with fail
  refine (newAny w).mono ?_
  rintro e w1 ⟨rfl, s1, bl1⟩
  have HA1 := Lib.hid (At.new s1 bl1)
  clear s1 bl1
  go_upto_region 5 with (fail)
  rw [← HM.out]
  clear HM a0 a1
  go_wp2_with (at_make; refine wpList_make_full _ rfl _ _ 23 rfl w1.heap.size 5 i0 (.int .u8 0) 1 Try.underlying23 hi hz0 hz1 _ _ _ _ m rfl rfl (by simp) (by simp) (by rw [H2.out]; omega) (by unfold maxLen; omega) (Nat.le_refl _) ?_; intro w2 ho hg; have HN := Lib.hid (noughts ho hg); clear ho hg)
  have C := feedAny (HA1.out.fresh HN.out.2.2).1 (cap := m) HN.out.1 (HA1.out.young HN.out.2.1) (by intro z hz; have := List.eq_of_mem_replicate hz; omega) (by omega)
  refine C.mono ?_
  clear C
  rintro e w3 ⟨rfl, d3⟩
  obtain ⟨F3, a3, _, _⟩ := (HA1.out.fresh HN.out.2.2).next d3
  have HX := Lib.hid (show (feedL [] (List.replicate m 0)).length = min 20000 (8 * m) by rw [feedL_length]; simp)
  generalize feedL [] (List.replicate m 0) = xs at *
  have HA3 := Lib.hid a3
  clear d3 a3 HA1 HN
  have C := copyAny HA3.out.1
  go_wp2_with fail
  refine C.mono ?_
  clear C
  rintro e w4 ⟨q, rfl, s4, bl4⟩
  have k4 := HA3.out.copied s4 bl4
  have HT4 := Lib.hid (show Two w F3 (New w3 w4) w.heap.size q xs xs w4 from ⟨HA3.out.fresh bl4, k4.1, k4.2⟩)
  clear s4 bl4 HA3 k4
  have C := tossAny HT4.out.c.1
  go_wp2_with fail
  refine C.mono ?_
  clear C
  rintro e w5 ⟨rfl, d5⟩
  obtain ⟨F5, t5⟩ := HT4.out.nextC d5
  have HT5 := Lib.hid t5
  clear d5 t5 HT4
  have C := feedAny (HT5.out.c.fresh ((Below.refl w5.heap.size w5).alloc (Nat.le_refl _) (.cells #[.int .u8 b] 5))).1 (cap := 1) (litReads w5 b 5) (HT5.out.c.young (fun _ x e => by injection e with e; subst e; exact Nat.le_refl _)) (by simpa using ⟨b0, b1⟩) (by omega)
  go_wp2_with fail
  refine C.mono ?_
  clear C
  rintro e w6 ⟨rfl, d6⟩
  obtain ⟨F6, t6⟩ := (HT5.out.fresh ((Below.refl w5.heap.size w5).alloc (Nat.le_refl _) (.cells #[.int .u8 b] 5))).nextC d6
  have HY := Lib.hid (show (feedL xs.tail [b]).length = min 20000 (xs.length - 1 + 8) by rw [feedL_length, List.length_tail]; rfl)
  generalize feedL xs.tail [b] = ys at *
  have HT6 := Lib.hid t6
  clear d6 t6 HT5
  go_wp2_with fail
  refine (feedNil _ _).mono ?_
  rintro e w' ⟨rfl, rfl⟩
  have HT7 := Lib.hid (HT6.out.fresh ((Below.refl w6.heap.size w6).alloc (Nat.le_refl _) (.cells #[.int .u8 b] 5)))
  go_wp2_with fail
  refine (known _).mono ?_
  rintro e w8 ⟨rfl, bl8⟩
  have HT8 := Lib.hid (HT7.out.fresh bl8)
  clear bl8 HT6 HT7
  have C := leftAny HT8.out.d.1
  have D := leftAny HT8.out.c.1
  have HXY := Lib.hid (And.intro HX.out HY.out)
  clear HX HY
  generalize xs.length = x at *
  generalize ys.length = y at *
  rcases (show m ≤ 2499 ∨ m = 2500 ∨ 2501 ≤ m by omega) with hc | rfl | hc
  · rw [show (x : Int) = 8 * (m : Int) by have := HXY.out; omega] at C
    rw [show (y : Int) = 8 * (m : Int) + 7 by have := HXY.out; omega] at D
    clear HXY
    go_wp2_with fail
    refine C.mono ?_
    clear C
    rintro e w' ⟨rfl, rfl⟩
    go_wp2_with fail
    refine D.mono ?_
    clear D
    rintro e w' ⟨rfl, rfl⟩
    go_wp2_with (first | (go_at_call 18; refine (leftNil _).mono ?_; rintro e w' ⟨rfl, rfl⟩) | (go_at_call 14; refine (tossNil _).mono ?_; rintro e w' ⟨rfl, rfl⟩) | (go_at_call 16; refine (heightNil _).mono ?_; rintro e w' ⟨rfl, rfl⟩))
    refine (copyNil _).mono ?_
    rintro e w9 ⟨r, rfl, s9, bl9⟩
    have C := leftAny s9
    have HB9 := Lib.hid (HT8.out.fresh bl9).c.2.1
    clear s9 bl9 HT8
    go_wp2_with fail
    refine C.mono ?_
    clear C
    rintro e w' ⟨rfl, rfl⟩
    go_wp2
    go_ret
    exact ⟨rfl, HB9.out⟩
  · rw [show (x : Int) = 20000 by have := HXY.out; omega] at C
    rw [show (y : Int) = 20000 by have := HXY.out; omega] at D
    clear HXY
    go_wp2_with fail
    refine C.mono ?_
    clear C
    rintro e w' ⟨rfl, rfl⟩
    go_wp2_with fail
    refine D.mono ?_
    clear D
    rintro e w' ⟨rfl, rfl⟩
    go_wp2_with (first | (go_at_call 18; refine (leftNil _).mono ?_; rintro e w' ⟨rfl, rfl⟩) | (go_at_call 14; refine (tossNil _).mono ?_; rintro e w' ⟨rfl, rfl⟩) | (go_at_call 16; refine (heightNil _).mono ?_; rintro e w' ⟨rfl, rfl⟩))
    refine (copyNil _).mono ?_
    rintro e w9 ⟨r, rfl, s9, bl9⟩
    have C := leftAny s9
    have HB9 := Lib.hid (HT8.out.fresh bl9).c.2.1
    clear s9 bl9 HT8
    go_wp2_with fail
    refine C.mono ?_
    clear C
    rintro e w' ⟨rfl, rfl⟩
    go_wp2
    go_ret
    exact ⟨rfl, HB9.out⟩
  · rw [show (x : Int) = 20000 by have := HXY.out; omega] at C
    rw [show (y : Int) = 20000 by have := HXY.out; omega] at D
    clear HXY
    go_wp2_with fail
    refine C.mono ?_
    clear C
    rintro e w' ⟨rfl, rfl⟩
    go_wp2_with fail
    refine D.mono ?_
    clear D
    rintro e w' ⟨rfl, rfl⟩
    go_wp2_with (first | (go_at_call 18; refine (leftNil _).mono ?_; rintro e w' ⟨rfl, rfl⟩) | (go_at_call 14; refine (tossNil _).mono ?_; rintro e w' ⟨rfl, rfl⟩) | (go_at_call 16; refine (heightNil _).mono ?_; rintro e w' ⟨rfl, rfl⟩))
    refine (copyNil _).mono ?_
    rintro e w9 ⟨r, rfl, s9, bl9⟩
    have C := leftAny s9
    have HB9 := Lib.hid (HT8.out.fresh bl9).c.2.1
    clear s9 bl9 HT8
    go_wp2_with fail
    refine C.mono ?_
    clear C
    rintro e w' ⟨rfl, rfl⟩
    go_wp2
    go_ret
    exact ⟨rfl, HB9.out⟩
end Go.Proofs.Ytkpjgekhcjjlpaa
