/-
  The chapter's example (reaperlaw17.known) is told. Conditions: none.
-/
import Derived.Test.YtfnjbbokbdddpaaG0417
import Derived.Test.YtfnjbbokbdddpaaG0517
namespace Go.Proofs.Ytfnjbbokbdddpaa.M2
open Go.RowKit

theorem lit_i64 (w : World) (l : List Int) : Reads .i64 (w.alloc (.cells (l.map (Value.int .i64)).toArray 2)) (some ⟨w.heap.size, 0, none⟩) l.length l := by
  refine ⟨rfl, fun _ => ⟨w.heap.size, 0, rfl, by simp, fun j hj => ?_⟩⟩
  have hn := heap_alloc_new w (.cells (l.map (Value.int .i64)).toArray 2)
  have e : ((l.map (Value.int .i64)).toArray)[j]? = some (.int .i64 (l.getD j 0)) := by simp [List.getD, hj]
  rw [Nat.zero_add]
  simp only [World.cell?, hn]
  simpa using e

theorem kn48 : swt 1 { t0 with pc := 48 } [1, 0, 4] = ⟨{ t0 with pc := 11 }, [0, 0, 4], 1⟩ := by rfl
theorem Did.under {a b : World} {B C p : Nat} {v : Value} {size : Int} {zs zs' : List Int} {st st' : Int} (m : Mem a B p v size zs st) (d : Did B p v size zs' st' a b) (hC : C ≤ B) (hs : C ≤ a.heap.size) : Below C a b := by
  obtain ⟨v', m', wr, lt⟩ := d
  exact wr.below hs (Nat.le_trans hC m.low) (fun g hg => Nat.le_trans hC (m.rowLt hg).1)

set_option maxRecDepth 100000 in
set_option maxHeartbeats 16000000 in
theorem known (w : World) : Calls Try.prog 9 #[] w fun e w' => e = .returned (.bool true) ∧ Below w.heap.size w w' := by
  go_enter Try.func9, Try.ntmps9
  go_wp2_with fail
  have R0 := lit_i64 w [1, 0, 4]
  have hb0 : Below w.heap.size w (w.alloc (.cells (([1, 0, 4] : List Int).map (Value.int .i64)).toArray 2)) := (Below.refl _ _).alloc (Nat.le_refl _) _
  change Calls _ _ _ (w.alloc (.cells (([1, 0, 4] : List Int).map (Value.int .i64)).toArray 2)) _
  generalize w.alloc (.cells (([1, 0, 4] : List Int).map (Value.int .i64)).toArray 2) = W0 at *
  have HB0 := Lib.hid hb0
  clear hb0
  refine (memoryTwo W0 _ 3 3 [1, 0, 4] R0 (by omega)).mono ?_
  clear R0
  rintro e w1 ⟨p, u, v, rfl, m1, o1, n1, b1⟩
  obtain ⟨au, cu, rfl⟩ := _root_.Go.Proofs.Ytfnjbbokbdddpaa.ownShape o1
  have HM := Lib.hid (show Mem w1 W0.heap.size p v 3 [1, 0, 4] 4 from m1)
  have HB1 := Lib.hid (HB0.out.trans (b1.mono HB0.out.size))
  have HWS := Lib.hid (HB0.out.size)
  clear m1 o1 n1 b1 HB0
  go_upto_region 2 with (fail)
  generalize hX : w1.alloc (.cells #[.int .i64 3, .slice au 3 cu, .int .i64 4] 39) = X
  have hbx : Below w.heap.size w X := by subst hX; exact HB1.out.alloc HB1.out.size _
  have MX := HM.out.fresh (show Below w1.heap.size w1 X by subst hX; exact (Below.refl _ _).alloc (Nat.le_refl _) _)
  have HMX := Lib.hid MX
  have HBX := Lib.hid hbx
  clear MX hbx hX HM HB1
  have C := stepM HMX.out 1 { t0 with pc := 48 } (by omega) (by omega)
  rw [kn48, show thN { t0 with pc := 48 } = .agg #[.int .i64 0, .int .i64 48, .int .i64 0, .int .i64 0, .int .i64 0, .int .i64 0, .int .i64 0, .int .i64 0, .int .i64 0, .int .i64 0, .int .i64 0, .int .i64 0, .slice none 0 0] from rfl, show thN ({ t0 with pc := 11 } : Th) = .agg #[.int .i64 0, .int .i64 11, .int .i64 0, .int .i64 0, .int .i64 0, .int .i64 0, .int .i64 0, .int .i64 0, .int .i64 0, .int .i64 0, .int .i64 0, .int .i64 0, .slice none 0 0] from rfl] at C
  have HC := Lib.hid C
  clear C
  go_wp2_with fail
  with_reducible refine HC.out.mono ?_
  clear HC
  rintro e w2 ⟨rfl, d2⟩
  have HB2 := Lib.hid (HBX.out.trans (Did.under HMX.out d2 HWS.out HBX.out.size))
  obtain ⟨v1, m1, wr1, _⟩ := d2
  have HM2 := Lib.hid (show Mem w2 W0.heap.size p v1 3 [0, 0, 4] 5 from m1)
  clear m1 wr1 HMX HBX
  go_upto_region 3 with (fail)
  generalize hY : w2.alloc (.cells #[.int .i64 0, .int .i64 11, .int .i64 0, .int .i64 0, .int .i64 0, .int .i64 0, .int .i64 0, .int .i64 0, .int .i64 0, .int .i64 0, .int .i64 0, .int .i64 0, .slice none 0 0] 25) = Y
  have HY := Lib.hid (show TX Y w2.heap.size { t0 with pc := 11 } (.slice none 0 0) by subst hY; exact TX.new w2 { t0 with pc := 11 } _)
  have HBY := Lib.hid (show Below w.heap.size w Y by subst hY; exact HB2.out.alloc HB2.out.size _)
  have HMY := Lib.hid (HM2.out.fresh (show Below w2.heap.size w2 Y by subst hY; exact (Below.refl _ _).alloc (Nat.le_refl _) _))
  clear hY HM2 HB2
  generalize w2.heap.size = g at *
  have C := Lib.hid (loadD HMY.out 0 (by omega) (by omega))
  go_wp2_with fail
  with_reducible refine C.out.mono ?_
  clear C
  rintro e w3 ⟨rfl, d3⟩
  have HB3 := Lib.hid (HBY.out.trans (Did.under HMY.out d3 HWS.out HBY.out.size))
  have HY3 := Lib.hid (show TX w3 g { t0 with pc := 11 } (.slice none 0 0) from (d3.kept HMY.out) _ _ _ HY.out (by decide) (by decide))
  have S1 := Lib.hid (sweepsN w3 { t0 with pc := 40 })
  rw [show thN ({ t0 with pc := 40 } : Th) = .agg #[.int .i64 0, .int .i64 40, .int .i64 0, .int .i64 0, .int .i64 0, .int .i64 0, .int .i64 0, .int .i64 0, .int .i64 0, .int .i64 0, .int .i64 0, .int .i64 0, .slice none 0 0] from rfl, show decide (40 ≤ ({ t0 with pc := 40 } : Th).pc ∧ ({ t0 with pc := 40 } : Th).pc ≤ 48) = true from rfl] at S1
  rw [show ld [0, 0, 4] 0 = 0 from rfl]
  clear d3 HMY HBY HY
  have y1 : w3.cell? ⟨g, 1, none⟩ = some (.int .i64 11) := HY3.out.c1
  go_wp2_with fail
  with_reducible refine S1.out.mono ?_
  clear S1 y1
  rintro e w4 ⟨rfl, b4⟩
  have HB4 := Lib.hid (HB3.out.trans (b4.mono HB3.out.size))
  have y := HY3.out.keep b4
  have S1 := Lib.hid (sweepsN w4 { t0 with pc := 11 })
  rw [show thN ({ t0 with pc := 11 } : Th) = .agg #[.int .i64 0, .int .i64 11, .int .i64 0, .int .i64 0, .int .i64 0, .int .i64 0, .int .i64 0, .int .i64 0, .int .i64 0, .int .i64 0, .int .i64 0, .int .i64 0, .slice none 0 0] from rfl, show decide (40 ≤ ({ t0 with pc := 11 } : Th).pc ∧ ({ t0 with pc := 11 } : Th).pc ≤ 48) = false from rfl] at S1
  have z0 : w4.cell? ⟨g, 0, none⟩ = some (.int .i64 0) := y.c0
  have z1 : w4.cell? ⟨g, 1, none⟩ = some (.int .i64 11) := y.c1
  have z2 : w4.cell? ⟨g, 2, none⟩ = some (.int .i64 0) := y.c2
  have z3 : w4.cell? ⟨g, 3, none⟩ = some (.int .i64 0) := y.c3
  have z4 : w4.cell? ⟨g, 4, none⟩ = some (.int .i64 0) := y.c4
  have z5 : w4.cell? ⟨g, 5, none⟩ = some (.int .i64 0) := y.c5
  have z6 : w4.cell? ⟨g, 6, none⟩ = some (.int .i64 0) := y.c6
  have z7 : w4.cell? ⟨g, 7, none⟩ = some (.int .i64 0) := y.c7
  have z8 : w4.cell? ⟨g, 8, none⟩ = some (.int .i64 0) := y.c8
  have z9 : w4.cell? ⟨g, 9, none⟩ = some (.int .i64 0) := y.c9
  have z10 : w4.cell? ⟨g, 10, none⟩ = some (.int .i64 0) := y.c10
  have z11 : w4.cell? ⟨g, 11, none⟩ = some (.int .i64 0) := y.c11
  have z12 := y.c12
  clear y b4
  go_wp2_with fail
  with_reducible refine S1.out.mono ?_
  clear S1 z0 z1 z2 z3 z4 z5 z6 z7 z8 z9 z10 z11 z12
  rintro e w5 ⟨rfl, b5⟩
  have HB5 := Lib.hid (HB4.out.trans (b5.mono HB4.out.size))
  clear b5
  go_wp2
  go_ret
  exact ⟨rfl, HB5.out⟩

end Go.Proofs.Ytfnjbbokbdddpaa.M2
