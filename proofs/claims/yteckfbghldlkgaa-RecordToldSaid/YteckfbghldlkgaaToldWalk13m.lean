/-
  The walk of RecordTold: for all results, operations and numbers it answers true and leaves all old memory as it was.
-/
import Derived.Test.YteckfbghldlkgaaKept13m
namespace Go.Proofs.Yteckfbghldlkgaa.M2
open Go.RowKit

/-- An operation in a block of its own. -/
def OB (w : World) (g : Nat) (c x : Int) : Prop := w.heap[g]? = some (Obj.cells #[.int .u8 c, .int .i32 x] 52 (0, 0))
theorem OB.c0 {w : World} {g : Nat} {c x : Int} (h : OB w g c x) : w.cell? ⟨g, 0, none⟩ = some (.int .u8 c) := by unfold OB at h; simp [World.cell?, h]
theorem OB.c1 {w : World} {g : Nat} {c x : Int} (h : OB w g c x) : w.cell? ⟨g, 1, none⟩ = some (.int .i32 x) := by unfold OB at h; simp [World.cell?, h]
theorem OB.lt {w : World} {g : Nat} {c x : Int} (h : OB w g c x) : g < w.heap.size := lt_of_block h
theorem OB.off {w w' : World} {g : Nat} {c x : Int} (h : OB w g c x) (k : Kept w w') : OB w' g c x := k _ _ _ h (by decide) (by decide)
theorem OB.new (w : World) (c x : Int) : OB (w.alloc (.cells #[.int .u8 c, .int .i32 x] 52)) w.heap.size c x := heap_alloc_new w _

/-- A record in a block of its own. -/
abbrev RC (w : World) (g : Nat) (a b c d e : Int) : Prop := B5 w g 45 a b c d e
theorem RC.off {w w' : World} {g : Nat} {a b c d e : Int} (h : RC w g a b c d e) (k : Kept w w') : RC w' g a b c d e := B5.off h (by decide) (by decide) k

set_option maxRecDepth 100000 in
set_option maxHeartbeats 16000000 in
theorem toldWalk (c x k v n : Int) (h0 : OpOk (c, x)) (h1 : OpOk (k, v)) (_ : -9223372036854775808 ≤ n) (_ : n ≤ 9223372036854775807) (w : World) :
    Calls Try.prog 5 #[.agg #[.int .u8 c, .int .i32 x], .agg #[.int .u8 k, .int .i32 v], .int .i64 n] w fun e w' => e = .returned (.bool true) ∧ Below w.heap.size w w' := by
  obtain ⟨⟨c0, c1⟩, x0, x1⟩ := h0
  obtain ⟨⟨k0, k1⟩, v0, v1⟩ := h1
  dsimp only at c0 c1 x0 x1 k0 k1 v0 v1
  have WR := fun w => wordRes c x c0 c1 x0 x1 w
  have WO := fun w => wordOp k v k0 k1 v0 v1 w
  have hp := wd_bd k0 k1 v0 v1
  have hq := wd_bd c0 c1 x0 x1
  have TD := fun (a b e f : Int) w => told a b e f (wd c x) hq.1 hq.2 w
  rw [kd_wd c0 c1, vl_wd c0 c1] at TD
  have hP := Lib.hid hp
  clear hp hq c0 c1 x0 x1 k0 k1 v0 v1
  generalize wd c x = y at *
  generalize wd k v = z at *
  go_enter Try.func5, Try.ntmps5
  go_wp2_with fail
  generalize hW : (w.alloc (.cells #[.int .u8 c, .int .i32 x] 50)).alloc (.cells #[.int .u8 k, .int .i32 v] 52) = W
  have HR := Lib.hid (show RB W w.heap.size c x by subst hW; exact (RB.new _ _ _).alloc _)
  have HO := Lib.hid (show OB W (w.heap.size + 1) k v by subst hW; have := OB.new (w.alloc (.cells #[.int .u8 c, .int .i32 x] 50)) k v; simpa using this)
  have HB := Lib.hid (show Below w.heap.size w W by subst hW; exact ((Below.refl _ _).alloc (Nat.le_refl _) _).alloc (by simp) _)
  clear hW
  refine (openIn 1 (by omega) (by omega) W).mono ?_
  rintro e w1 ⟨rfl, m1, b1⟩
  have hB : w.heap.size ≤ W.heap.size := HB.out.size
  have m1 : Mem1 w1 W.heap.size W.heap.size 8 [0, 0, 0] 1 := m1
  have C : Calls Try.prog 16 #[.pointer (some ⟨W.heap.size, 0, none⟩), .int .i64 5] w1 fun e w' => e = .returned (.tuple #[.int .i64 3, .int .u16 0]) ∧ Mem1 w' W.heap.size W.heap.size 8 [0, 0, 0, 0, 0, 0, 0, 0] 2 ∧ Below W.heap.size w1 w' ∧ Kept w1 w' := allocK m1 5 (by omega) (by simp) (by omega) (by omega)
  have K := keptOf b1
  have HR := Lib.hid (HR.out.off K)
  have HO := Lib.hid (HO.out.off K)
  have HB := Lib.hid (HB.out.trans (b1.mono hB))
  generalize W.heap.size = B at *
  clear b1 m1 K
  go_wp2_with fail
  refine C.mono ?_
  clear C
  rintro e w2 ⟨rfl, m2, b2, K⟩
  have HR := Lib.hid (HR.out.off K)
  have HO := Lib.hid (HO.out.off K)
  have HB := Lib.hid (HB.out.trans (b2.mono hB))
  have HM := Lib.hid m2
  clear m2 b2 K
  have r0 := HR.out.c0
  have r1 := HR.out.c1
  go_wp2_with fail
  refine (WR w2).mono ?_
  rintro e w3 ⟨rfl, f3⟩
  have f3 := f3.below
  have K := keptOf f3
  have HR := Lib.hid (HR.out.off K)
  have HO := Lib.hid (HO.out.off K)
  have HB := Lib.hid (HB.out.trans (f3.mono HB.out.size))
  have C : Calls Try.prog 19 #[.pointer (some ⟨B, 0, none⟩), .int .i64 7, .int .i64 y] w3 fun e w' => e = .returned (.int .u16 0) ∧ Mem1 w' B B 8 [0, 0, 0, 0, 0, 0, 0, y] 3 ∧ Below B w3 w' ∧ Kept w3 w' := storeK (HM.out.keep f3) 7 y (by omega) (by simp) (by omega) (by omega)
  clear f3 K r0 r1 HM WR
  go_wp2_with fail
  refine C.mono ?_
  clear C
  rintro e w4 ⟨rfl, m4, b4, K⟩
  have HR := Lib.hid (HR.out.off K)
  have HO := Lib.hid (HO.out.off K)
  have HB := Lib.hid (HB.out.trans (b4.mono hB))
  have HM := Lib.hid m4
  clear m4 b4 K
  have r0 := HO.out.c0
  have r1 := HO.out.c1
  go_wp2_with fail
  refine (WO w4).mono ?_
  rintro e w5 ⟨rfl, f5⟩
  have f5 := f5.below
  have K := keptOf f5
  have HR := Lib.hid (HR.out.off K)
  have HB := Lib.hid (HB.out.trans (f5.mono HB.out.size))
  have C : Calls Try.prog 19 #[.pointer (some ⟨B, 0, none⟩), .int .i64 3, .int .i64 z] w5 fun e w' => e = .returned (.int .u16 0) ∧ Mem1 w' B B 8 [0, 0, 0, z, 0, 0, 0, y] 4 ∧ Below B w5 w' ∧ Kept w5 w' := storeK (HM.out.keep f5) 3 z (by omega) (by simp) (by omega) (by omega)
  clear f5 K r0 r1 HM HO WO
  go_wp2_with fail
  refine C.mono ?_
  clear C
  rintro e w6 ⟨rfl, m6, b6, K⟩
  have HR := Lib.hid (HR.out.off K)
  have HB := Lib.hid (HB.out.trans (b6.mono hB))
  have HM := Lib.hid m6
  have C : Calls Try.prog 20 #[.pointer (some ⟨B, 0, none⟩), .int .i64 3] w6 fun e w' => e = .returned (.tuple #[.agg #[.int .i64 z, .int .i64 0, .int .i64 0, .int .i64 0, .int .i64 y], .bool true]) ∧ Below w6.heap.size w6 w' := seeIn m6 0 (by simp [mn])
  clear m6 b6 K
  go_wp2_with fail
  refine C.mono ?_
  clear C
  rintro e w7 ⟨rfl, b7⟩
  go_upto_region 8 with (fail)
  generalize hW8 : w7.alloc (.cells #[.int .i64 z, .int .i64 0, .int .i64 0, .int .i64 0, .int .i64 y] 45) = W8
  have f8 : Below w6.heap.size w6 W8 := by subst hW8; exact b7.alloc b7.size _
  have HX := Lib.hid (show RC W8 w7.heap.size z 0 0 0 y by subst hW8; exact B5.new _ _ _ _ _ _ _)
  have K := keptOf f8
  have HR := Lib.hid (HR.out.off K)
  have HB := Lib.hid (HB.out.trans (f8.mono HB.out.size))
  have HM := Lib.hid (HM.out.keep f8)
  clear K f8 hW8 b7
  generalize w7.heap.size = g10 at *
  have r0 := HX.out.c0
  have r1 := HX.out.c1
  have r2 := HX.out.c2
  have r3 := HX.out.c3
  have r4 := HX.out.c4
  go_wp2_with fail
  refine (TD _ _ _ _ _).mono ?_
  clear TD r0 r1 r2 r3 r4
  rintro e w9 ⟨rfl, b9⟩
  go_upto_region 9 with (fail)
  generalize hW10 : w9.alloc (.cells #[.int .u8 c, .int .i32 x] 50) = W10
  have f10 : Below W8.heap.size W8 W10 := by subst hW10; exact b9.alloc b9.size _
  have HY := Lib.hid (show RB W10 w9.heap.size c x by subst hW10; exact RB.new _ _ _)
  have K := keptOf f10
  have HR := Lib.hid (HR.out.off K)
  have HX := Lib.hid (HX.out.off K)
  have HB := Lib.hid (HB.out.trans (f10.mono HB.out.size))
  have C : Calls Try.prog 19 #[.pointer (some ⟨B, 0, none⟩), .int .i64 3, .int .i64 n] W10 fun e w' => e = .returned (.int .u16 0) ∧ Mem1 w' B B 8 [0, 0, 0, n, 0, 0, 0, y] 5 ∧ Below B W10 w' ∧ Kept W10 w' := storeK (HM.out.keep f10) 3 n (by omega) (by simp) (by omega) (by omega)
  clear K f10 hW10 b9 HM
  generalize w9.heap.size = g12 at *
  go_wp2_with fail
  refine C.mono ?_
  clear C
  rintro e w11 ⟨rfl, m11, b11, K⟩
  have HR := Lib.hid (HR.out.off K)
  have HX := Lib.hid (HX.out.off K)
  have HY := Lib.hid (HY.out.off K)
  have HB := Lib.hid (HB.out.trans (b11.mono hB))
  have HM := Lib.hid m11
  have C : Calls Try.prog 20 #[.pointer (some ⟨B, 0, none⟩), .int .i64 3] w11 fun e w' => e = .returned (.tuple #[.agg #[.int .i64 n, .int .i64 0, .int .i64 0, .int .i64 0, .int .i64 y], .bool true]) ∧ Below w11.heap.size w11 w' := seeIn m11 0 (by simp [mn])
  clear m11 b11 K
  go_wp2_with fail
  refine C.mono ?_
  clear C
  rintro e w12 ⟨rfl, b12⟩
  go_upto_region 11 with (fail)
  generalize hW13 : w12.alloc (.cells #[.int .i64 n, .int .i64 0, .int .i64 0, .int .i64 0, .int .i64 y] 45) = W13
  have f13 : Below w11.heap.size w11 W13 := by subst hW13; exact b12.alloc b12.size _
  have HZ := Lib.hid (show RC W13 w12.heap.size n 0 0 0 y by subst hW13; exact B5.new _ _ _ _ _ _ _)
  have K := keptOf f13
  have HR := Lib.hid (HR.out.off K)
  have HX := Lib.hid (HX.out.off K)
  have HY := Lib.hid (HY.out.off K)
  have HB := Lib.hid (HB.out.trans (f13.mono HB.out.size))
  have C := seeOut (HM.out.keep f13) 4 (by intro k hk; simp [mn] at hk; omega) (by omega)
  clear K f13 hW13 b12 HM
  generalize w12.heap.size = g14 at *
  go_wp2_with fail
  refine C.mono ?_
  clear C
  rintro e w14 ⟨rfl, b14⟩
  go_upto_region 12 with (fail)
  generalize hW15 : w14.alloc (.cells #[.int .i64 0, .int .i64 0, .int .i64 0, .int .i64 0, .int .i64 0] 45) = W15
  have f15 : Below W13.heap.size W13 W15 := by subst hW15; exact b14.alloc b14.size _
  have K := keptOf f15
  have HR := Lib.hid (HR.out.off K)
  have HX := Lib.hid (HX.out.off K)
  have HY := Lib.hid (HY.out.off K)
  have HZ := Lib.hid (HZ.out.off K)
  have HB := Lib.hid (HB.out.trans (f15.mono HB.out.size))
  clear K f15 hW15 b14
  go_wp2_with fail
  refine (known W15).mono ?_
  rintro e w16 ⟨rfl, b16⟩
  have K := keptOf b16
  have HR := Lib.hid (HR.out.off K)
  have HX := Lib.hid (HX.out.off K)
  have HY := Lib.hid (HY.out.off K)
  have HZ := Lib.hid (HZ.out.off K)
  have HB := Lib.hid (HB.out.trans (b16.mono HB.out.size))
  clear K b16
  have hq := eqRes c x
  have r0 := HR.out.c0
  have r1 := HR.out.c1
  have y0 := HY.out.c0
  have y1 := HY.out.c1
  have x0 := HX.out.c0
  have x1 := HX.out.c1
  have x2 := HX.out.c2
  have x3 := HX.out.c3
  have x4 := HX.out.c4
  go_wp2_with fail
  refine (waitsAny _ _ _ _ _ _).mono ?_
  rintro e w17 ⟨rfl, b17⟩
  have hz : decide (0 < z) = true := by have := hP.out; simp; omega
  have HZ := Lib.hid (HZ.out.off (keptOf b17))
  have HB := Lib.hid (HB.out.trans (b17.mono HB.out.size))
  clear b17 r0 r1 y0 y1 x0 x1 x2 x3 x4
  have x0 := HZ.out.c0
  have x1 := HZ.out.c1
  have x2 := HZ.out.c2
  have x3 := HZ.out.c3
  have x4 := HZ.out.c4
  go_wp2_with fail
  refine (waitsAny _ _ _ _ _ _).mono ?_
  rintro e w18 ⟨rfl, b18⟩
  have HB := Lib.hid (HB.out.trans (b18.mono HB.out.size))
  clear b18
  go_wp2
  go_ret
  exact ⟨by simp, HB.out⟩

end Go.Proofs.Yteckfbghldlkgaa.M2
