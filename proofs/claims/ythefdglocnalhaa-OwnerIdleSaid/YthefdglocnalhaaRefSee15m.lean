/-
  What the document's own See and Open (package reaperref13) tell; each makes new memory alone. Conditions: at most 1000 cells.
-/
import Derived.Test.YthefdglocnalhaaRefRec15m
import Derived.Deep.RegionHeld3
namespace Go.Proofs.Ythefdglocnalhaa.M2
open Go.RowKit

/-- The document's memory in a box, and a record's box beside it. -/
def RS (w : World) (B : Nat) (u : Value) (size : Int) (zs : List Int) (st : Int) (wr : World) : Prop :=
  wr.ownsRow B 2 1 u zs.length (zs.map (Value.int .i64)) ∧ Boxed wr w.heap.size (.int .i64 size) u (.int .i64 st) ∧ B5 wr (w.heap.size + 1) 61 0 0 0 0 0 ∧ Below w.heap.size w wr

section
variable {w : World} {B : Nat} {u : Value} {size : Int} {zs : List Int} {st : Int}

theorem RS.fresh {a b : World} (h : RS w B u size zs st a) (hb : Below a.heap.size a b) : RS w B u size zs st b :=
  ⟨own_keep h.1 hb, h.2.1.keep hb, h.2.2.1.keep hb, h.2.2.2.trans (hb.mono h.2.2.2.size)⟩

theorem RS.new (h : w.ownsRow B 2 1 u zs.length (zs.map (Value.int .i64))) : ∀ W, (w.alloc (.cells #[.int .i64 size, u, .int .i64 st] 37)).alloc (.cells #[.int .i64 0, .int .i64 0, .int .i64 0, .int .i64 0, .int .i64 0] 61) = W → RS w B u size zs st W := by
  rintro W rfl
  have hb : Below w.heap.size w ((w.alloc (.cells #[.int .i64 size, u, .int .i64 st] 37)).alloc (.cells #[.int .i64 0, .int .i64 0, .int .i64 0, .int .i64 0, .int .i64 0] 61)) := ((Below.refl _ _).alloc (Nat.le_refl _) _).alloc (by simp) _
  refine ⟨own_keep h hb, (Boxed.new _ _ _ _).alloc _, ?_, hb⟩
  have := B5.new (w.alloc (.cells #[.int .i64 size, u, .int .i64 st] 37)) 61 0 0 0 0 0
  simpa using this

end

set_option maxRecDepth 100000 in
theorem refOpenOut (n : Int) (h : n < 1 ∨ 64 < n) (w : World) : Calls Try.prog 15 #[.int .i64 n] w fun e w' => e = .returned (.tuple #[.agg #[.int .i64 0, .slice none 0 0, .int .i64 0], .bool false]) ∧ Below w.heap.size w w' := by
  rcases (show n < 1 ∨ (1 ≤ n ∧ 64 < n) from by omega) with h | ⟨h, h'⟩
  · go_enter Try.func15, Try.ntmps15
    go_wp2
    exact bodyPost_ret (v := .tuple #[.agg #[.int .i64 0, .slice none 0 0, .int .i64 0], .bool false]) (by simp [results, Try.results15, go_sem]) rfl ⟨rfl, (Below.refl _ _).alloc (Nat.le_refl _) _⟩
  · go_enter Try.func15, Try.ntmps15
    go_wp2
    exact bodyPost_ret (v := .tuple #[.agg #[.int .i64 0, .slice none 0 0, .int .i64 0], .bool false]) (by simp [results, Try.results15, go_sem]) rfl ⟨rfl, (Below.refl _ _).alloc (Nat.le_refl _) _⟩

set_option maxRecDepth 100000 in
set_option maxHeartbeats 1600000 in
theorem refOpenIn (n : Int) (h0 : 1 ≤ n) (h1 : n ≤ 64) (w : World) : Calls Try.prog 15 #[.int .i64 n] w fun e w' => ∃ u, e = .returned (.tuple #[.agg #[.int .i64 (3 + 5 * n), u, .int .i64 1], .bool true]) ∧ w'.ownsRow w.heap.size 2 1 u 3 (([0, 0, 0] : List Int).map (Value.int .i64)) ∧ Below w.heap.size w w' := by
  go_enter Try.func15, Try.ntmps15
  go_upto_region 3 with (fail)
  generalize hW : w.alloc (.cells #[.int .i64 0, .slice none 0 0, .int .i64 0] 37) = W
  have HX := Lib.hid (show Boxed W w.heap.size (.int .i64 0) (.slice none 0 0) (.int .i64 0) by subst hW; exact Boxed.new _ _ _ _)
  have HB := Lib.hid (show Below w.heap.size w W by subst hW; exact (Below.refl _ _).alloc (Nat.le_refl _) _)
  clear hW
  go_wp2_with fail
  refine (refNew (3 + 5 * n) W).mono ?_
  rintro e w1 ⟨rfl, b1⟩
  rw [show sizeOf' (3 + 5 * n) = 3 + 5 * n by unfold sizeOf'; rw [if_neg (by omega), if_neg (by omega)]]
  have HX1 := Lib.hid (HX.out.keep b1)
  have HB1 := Lib.hid (HB.out.trans (b1.mono HB.out.size))
  clear b1 HX HB
  have C := refAllocOk (w := w1) (B := w.heap.size) (u := .slice none 0 0) (size := 3 + 5 * n) (zs := []) (st := 0) (World.ownsRow_nil _ _ _ _) HB1.out.size 3 (by omega) (by simp; omega) (by simp; omega) (by omega) (by omega)
  go_wp2_with fail
  refine C.mono ?_
  clear C
  rintro e w2 ⟨u, rfl, o2, _, b2⟩
  obtain ⟨ao, cap, rfl⟩ := ownShape o2
  have o2 : w2.ownsRow w.heap.size 2 1 (.slice ao 3 cap) 3 (([0, 0, 0] : List Int).map (Value.int .i64)) := o2
  have HX2 := Lib.hid (HX1.out.keep b2)
  have HB2 := Lib.hid (HB1.out.trans (b2.mono HB1.out.size))
  have HO2 := Lib.hid o2
  clear b2 HX1 HB1 o2
  have e0 := HX2.out.c0
  have e1 := HX2.out.c1
  have e2 := HX2.out.c2
  have ef := HX2.out.f
  have hN := HX2.out.lt
  go_wp2
  have ne := own_ne_boxed HO2.out HX2.out
  have Z := (((HX2.out.set0 (.int .i64 (3 + 5 * n))).set1 (.slice ao 3 cap)).set2 (.int .i64 1)).alloc (.cells #[.int .i64 (3 + 5 * n), .slice ao 3 cap, .int .i64 1] 37)
  refine bodyPost_ret (v := .tuple #[.agg #[.int .i64 (3 + 5 * n), .slice ao 3 cap, .int .i64 1], .bool true]) (by simp [results, Try.results15, go_sem, Z.c0, Z.c1, Z.c2]) rfl ⟨_, rfl, ?_, ?_⟩
  · exact (ownsRow_setCell_other (ownsRow_setCell_other (ownsRow_setCell_other HO2.out ne _) ne _) ne _).alloc _
  · exact (((HB2.out.setCell (Nat.le_refl _) _).setCell (Nat.le_refl _) _).setCell (Nat.le_refl _) _).alloc (by simpa [World.setCell] using HB2.out.size) _

end Go.Proofs.Ythefdglocnalhaa.M2
