/-
  What the document's own See and Open (package reaperref13) tell; each makes new memory alone. Conditions: at most 1000 cells.
-/
import Derived.Test.YtllgcnljpehgeaaRefRec14m
import Derived.Deep.RegionHeld3
namespace Go.Proofs.Ytllgcnljpehgeaa.M2
open Go.RowKit

/-- The document's memory in a box, and a record's box beside it. -/
def RS (w : World) (B : Nat) (u : Value) (size : Int) (zs : List Int) (st : Int) (wr : World) : Prop :=
  wr.ownsRow B 2 1 u zs.length (zs.map (Value.int .i64)) ∧ Boxed wr w.heap.size (.int .i64 size) u (.int .i64 st) ∧ B5 wr (w.heap.size + 1) 76 0 0 0 0 0 ∧ Below w.heap.size w wr

section
variable {w : World} {B : Nat} {u : Value} {size : Int} {zs : List Int} {st : Int}

theorem RS.fresh {a b : World} (h : RS w B u size zs st a) (hb : Below a.heap.size a b) : RS w B u size zs st b :=
  ⟨own_keep h.1 hb, h.2.1.keep hb, h.2.2.1.keep hb, h.2.2.2.trans (hb.mono h.2.2.2.size)⟩

theorem RS.at {W : World} (h : RS w B u size zs st W) (a : Int) (i : Nat) (ha : a = (i : Int)) (hi : i < zs.length) :
    Calls Try.prog 51 #[.agg #[.int .i64 size, u, .int .i64 st], .int .i64 a] W fun e w' => e = .returned (.int .i64 (zs.getD i 0)) ∧ Below W.heap.size W w' := by
  have C := refAtIn (size := size) (st := st) h.1 a (by omega) (by omega)
  rw [show a.toNat = i by omega] at C
  exact C

theorem RS.new (h : w.ownsRow B 2 1 u zs.length (zs.map (Value.int .i64))) : ∀ W, (w.alloc (.cells #[.int .i64 size, u, .int .i64 st] 33)).alloc (.cells #[.int .i64 0, .int .i64 0, .int .i64 0, .int .i64 0, .int .i64 0] 76) = W → RS w B u size zs st W := by
  rintro W rfl
  have hb : Below w.heap.size w ((w.alloc (.cells #[.int .i64 size, u, .int .i64 st] 33)).alloc (.cells #[.int .i64 0, .int .i64 0, .int .i64 0, .int .i64 0, .int .i64 0] 76)) := ((Below.refl _ _).alloc (Nat.le_refl _) _).alloc (by simp) _
  refine ⟨own_keep h hb, (Boxed.new _ _ _ _).alloc _, ?_, hb⟩
  have := B5.new (w.alloc (.cells #[.int .i64 size, u, .int .i64 st] 33)) 76 0 0 0 0 0
  simpa using this

set_option maxRecDepth 100000 in
set_option maxHeartbeats 1600000 in
theorem refSeeOut (h : w.ownsRow B 2 1 u zs.length (zs.map (Value.int .i64))) (hl : zs.length ≤ 1000) (a : Int) (ha : ∀ k : Nat, k < mn zs.length → a ≠ 3 + 5 * (k : Int)) :
    Calls Try.prog 52 #[.agg #[.int .i64 size, u, .int .i64 st], .int .i64 a] w fun e w' => e = .returned (.tuple #[.agg #[.int .i64 0, .int .i64 0, .int .i64 0, .int .i64 0, .int .i64 0], .bool false]) ∧ Below w.heap.size w w' := by
  obtain ⟨ao, cap, rfl⟩ := ownShape h
  obtain ⟨W, hW⟩ : ∃ W, (w.alloc (.cells #[.int .i64 size, .slice ao zs.length cap, .int .i64 st] 33)).alloc (.cells #[.int .i64 0, .int .i64 0, .int .i64 0, .int .i64 0, .int .i64 0] 76) = W := ⟨_, rfl⟩
  have HR := Lib.hid (RS.new h W hW)
  have C := refNthOut (size := size) (st := st) HR.out.1 hl a ha
  have HW := Lib.hid hW
  clear hW h hl ha
  go_enter Try.func52, Try.ntmps52
  go_upto_region 1 with (fail)
  rw [HW.out]
  have c0 := HR.out.2.1.c0
  have c1 := HR.out.2.1.c1
  have c2 := HR.out.2.1.c2
  go_wp2_with fail
  refine C.mono ?_
  clear C c0 c1 c2 HW
  rintro e w3 ⟨rfl, b3⟩
  have HR3 := Lib.hid (HR.out.fresh b3)
  clear b3 HR
  have e0 := HR3.out.2.2.1.c0
  have e1 := HR3.out.2.2.1.c1
  have e2 := HR3.out.2.2.1.c2
  have e3 := HR3.out.2.2.1.c3
  have e4 := HR3.out.2.2.1.c4
  have ef := HR3.out.2.2.1.f
  have hN := HR3.out.2.2.1.lt
  go_wp2
  have Z := HR3.out.2.2.1.set5 0 0 0 0 0
  refine bodyPost_ret (v := .tuple #[.agg #[.int .i64 0, .int .i64 0, .int .i64 0, .int .i64 0, .int .i64 0], .bool false]) (by simp [results, Try.results52, go_sem, Z.c0, Z.c1, Z.c2, Z.c3, Z.c4]) rfl ⟨rfl, ?_⟩
  exact ((((HR3.out.2.2.2.setCell (by simp) _).setCell (by simp) _).setCell (by simp) _).setCell (by simp) _).setCell (by simp) _

set_option maxRecDepth 100000 in
set_option maxHeartbeats 1600000 in
theorem refSeeIn (h : w.ownsRow B 2 1 u zs.length (zs.map (Value.int .i64))) (hl : zs.length ≤ 1000) (k : Nat) (hk : k < mn zs.length) :
    Calls Try.prog 52 #[.agg #[.int .i64 size, u, .int .i64 st], .int .i64 (3 + 5 * (k : Int))] w fun e w' =>
      e = .returned (.tuple #[.agg #[.int .i64 (zs.getD (3 + 5 * k) 0), .int .i64 (zs.getD (3 + 5 * k + 1) 0), .int .i64 (zs.getD (3 + 5 * k + 2) 0), .int .i64 (zs.getD (3 + 5 * k + 3) 0), .int .i64 (zs.getD (3 + 5 * k + 4) 0)], .bool true]) ∧ Below w.heap.size w w' := by
  obtain ⟨ao, cap, rfl⟩ := ownShape h
  obtain ⟨W, hW⟩ : ∃ W, (w.alloc (.cells #[.int .i64 size, .slice ao zs.length cap, .int .i64 st] 33)).alloc (.cells #[.int .i64 0, .int .i64 0, .int .i64 0, .int .i64 0, .int .i64 0] 76) = W := ⟨_, rfl⟩
  have HR := Lib.hid (RS.new h W hW)
  have C := refNthIn (size := size) (st := st) HR.out.1 hl k hk
  have HW := Lib.hid hW
  have hK : 3 + 5 * k + 5 ≤ zs.length := by unfold mn at hk; omega
  have HQ := Lib.hid (fun (wx : World) (h : RS w B (.slice ao zs.length cap) size zs st wx) (a : Int) (i : Nat) (ha : a = (i : Int)) (hi : i < 3 + 5 * k + 5) => h.at a i ha (by omega))
  clear hW h
  obtain ⟨a, ha⟩ : ∃ a : Int, a = 3 + 5 * (k : Int) := ⟨_, rfl⟩
  rw [← ha] at C ⊢
  have HA := Lib.hid ha
  have w1 : IntKind.i64.wrap (a + 1) = a + 1 := IntWalk.i64_in _ (by omega)
  have w2 : IntKind.i64.wrap (a + 2) = a + 2 := IntWalk.i64_in _ (by omega)
  have w3 : IntKind.i64.wrap (a + 3) = a + 3 := IntWalk.i64_in _ (by omega)
  have w4 : IntKind.i64.wrap (a + 4) = a + 4 := IntWalk.i64_in _ (by omega)
  obtain ⟨z0, h0⟩ : ∃ z, zs.getD (3 + 5 * k) 0 = z := ⟨_, rfl⟩
  obtain ⟨z1, h1⟩ : ∃ z, zs.getD (3 + 5 * k + 1) 0 = z := ⟨_, rfl⟩
  obtain ⟨z2, h2⟩ : ∃ z, zs.getD (3 + 5 * k + 2) 0 = z := ⟨_, rfl⟩
  obtain ⟨z3, h3⟩ : ∃ z, zs.getD (3 + 5 * k + 3) 0 = z := ⟨_, rfl⟩
  obtain ⟨z4, h4⟩ : ∃ z, zs.getD (3 + 5 * k + 4) 0 = z := ⟨_, rfl⟩
  rw [h0, h1, h2, h3, h4]
  have Q0 := Lib.hid (fun wx h => HQ.out wx h a (3 + 5 * k) (by have := HA.out; omega) (by omega))
  have Q1 := Lib.hid (fun wx h => HQ.out wx h (a + 1) (3 + 5 * k + 1) (by have := HA.out; omega) (by omega))
  have Q2 := Lib.hid (fun wx h => HQ.out wx h (a + 2) (3 + 5 * k + 2) (by have := HA.out; omega) (by omega))
  have Q3 := Lib.hid (fun wx h => HQ.out wx h (a + 3) (3 + 5 * k + 3) (by have := HA.out; omega) (by omega))
  have Q4 := Lib.hid (fun wx h => HQ.out wx h (a + 4) (3 + 5 * k + 4) (by have := HA.out; omega) (by omega))
  rw [h0] at Q0
  rw [h1] at Q1
  rw [h2] at Q2
  rw [h3] at Q3
  rw [h4] at Q4
  clear ha h0 h1 h2 h3 h4 HQ HA hl hk hK
  go_enter Try.func52, Try.ntmps52
  go_upto_region 1 with (fail)
  rw [HW.out]
  have c0 := HR.out.2.1.c0
  have c1 := HR.out.2.1.c1
  have c2 := HR.out.2.1.c2
  go_wp2_with fail
  refine C.mono ?_
  clear C c0 c1 c2 HW
  rintro e W3 ⟨rfl, b3⟩
  have HR3 := Lib.hid (HR.out.fresh b3)
  have T0 := Lib.hid (HR3.out.fresh (Below.refl _ _).drew)
  clear b3 HR
  have a0 := HR3.out.2.1.c0
  have a1 := HR3.out.2.1.c1
  have a2 := HR3.out.2.1.c2
  have b0 := T0.out.2.1.c0
  have b1 := T0.out.2.1.c1
  have b2 := T0.out.2.1.c2
  have C0 := Lib.hid (Q0.out _ T0.out)
  clear HR3
  go_wp2
  go_region_held3 (fun w' => w'.cell? ⟨w.heap.size, 0, none⟩ = some (.int .i64 size) ∧ w'.cell? ⟨w.heap.size, 1, none⟩ = some (.slice ao zs.length cap) ∧ w'.cell? ⟨w.heap.size, 2, none⟩ = some (.int .i64 st)) (with_reducible first | exact ⟨a0, a1, a2⟩ | exact ⟨b0, b1, b2⟩ | exact ⟨c0, c1, c2⟩ | exact ⟨d0, d1, d2⟩ | exact ⟨e0, e1, e2⟩ | exact ⟨f0, f1, f2⟩ | exact ⟨g0, g1, g2⟩ | (refine ⟨?_, ?_, ?_⟩ <;> (repeat (refine cellOther _ (by simp) ?_)) <;> assumption)) (first
    | ((with_reducible refine C4.out.mono ?_); rintro e W8 ⟨rfl, b8⟩; have T5 := Lib.hid (T4.out.fresh b8); have g0 := T5.out.2.1.c0; have g1 := T5.out.2.1.c1; have g2 := T5.out.2.1.c2; have k0 := T5.out.2.2.1.c0; have k1 := T5.out.2.2.1.c1; have k2 := T5.out.2.2.1.c2; have k3 := T5.out.2.2.1.c3; have k4 := T5.out.2.2.1.c4; have kf := T5.out.2.2.1.f; clear b8)
    | ((with_reducible refine C3.out.mono ?_); rintro e W7 ⟨rfl, b7⟩; have T4 := Lib.hid (T3.out.fresh b7); have f0 := T4.out.2.1.c0; have f1 := T4.out.2.1.c1; have f2 := T4.out.2.1.c2; have C4 := Lib.hid (Q4.out _ T4.out); clear b7)
    | ((with_reducible refine C2.out.mono ?_); rintro e W6 ⟨rfl, b6⟩; have T3 := Lib.hid (T2.out.fresh b6); have e0 := T3.out.2.1.c0; have e1 := T3.out.2.1.c1; have e2 := T3.out.2.1.c2; have C3 := Lib.hid (Q3.out _ T3.out); clear b6)
    | ((with_reducible refine C1.out.mono ?_); rintro e W5 ⟨rfl, b5⟩; have T2 := Lib.hid (T1.out.fresh b5); have d0 := T2.out.2.1.c0; have d1 := T2.out.2.1.c1; have d2 := T2.out.2.1.c2; have C2 := Lib.hid (Q2.out _ T2.out); clear b5)
    | ((with_reducible refine C0.out.mono ?_); rintro e W4 ⟨rfl, b4⟩; have T1 := Lib.hid (T0.out.fresh b4); have c0 := T1.out.2.1.c0; have c1 := T1.out.2.1.c1; have c2 := T1.out.2.1.c2; have C1 := Lib.hid (Q1.out _ T1.out); clear b4))
  all_goals
    go_wp2
    have Z := T5.out.2.2.1.set5 z0 z1 z2 z3 z4
    refine bodyPost_ret (v := .tuple #[.agg #[.int .i64 z0, .int .i64 z1, .int .i64 z2, .int .i64 z3, .int .i64 z4], .bool true]) (by simp [results, Try.results52, go_sem, Z.c0, Z.c1, Z.c2, Z.c3, Z.c4]) rfl ⟨rfl, ?_⟩
    exact ((((T5.out.2.2.2.setCell (by simp) _).setCell (by simp) _).setCell (by simp) _).setCell (by simp) _).setCell (by simp) _
end

end Go.Proofs.Ytllgcnljpehgeaa.M2
