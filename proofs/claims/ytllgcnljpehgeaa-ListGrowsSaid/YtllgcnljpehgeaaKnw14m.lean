/-
  The chapter's example (reaperlaw14.known) is told. Conditions: none.
-/
import Derived.Test.YtllgcnljpehgeaaAsks14m
namespace Go.Proofs.Ytllgcnljpehgeaa.M2
open Go.RowKit

theorem litRow {k : IntKind} (w : World) (t : TypeId) (zs : List Int) (hm : zs.length ≤ maxLen) : Reads k (w.alloc (.cells (zs.map (Value.int k)).toArray t)) (some ⟨w.heap.size, 0, none⟩) zs.length zs := by
  have h := _root_.Go.Proofs.Ytllgcnljpehgeaa.rowOf (w := w.alloc (.cells (zs.map (Value.int k)).toArray t)) (base := w.heap.size) (g := w.heap.size) (n := zs.length) (e := t) (xs := zs.map (Value.int k)) (Nat.le_refl _) (by simp) hm (heap_alloc_new w _)
  obtain ⟨ao, cap, e, hr, _, _⟩ := _root_.Go.Proofs.Ytllgcnljpehgeaa.reads_own h
  simp only [Value.slice.injEq] at e
  obtain ⟨rfl, _, _⟩ := e
  exact hr

theorem path1 : Path [0, 3, 0, 5, 1, 0, 0, 0] [3] false where
  len := by decide
  step := by intro k hk; have : k = 0 := by simp at hk; omega
             subst this; rfl
  isr := by intro k hk; have : k = 0 := by simp at hk; omega
            subst this; exact ⟨0, by decide, rfl⟩
  new := by intro k hk; have : k = 0 := by simp at hk; omega
            subst this; simp
  fin := fun _ => rfl
  big := by decide
  bad := fun h => by cases h
theorem path2 : Path [0, 3, 0, 5, 1, 0, 3, 0] [3] true where
  len := by decide
  step := by intro k hk; have : k = 0 := by simp at hk; omega
             subst this; rfl
  isr := by intro k hk; have : k = 0 := by simp at hk; omega
            subst this; exact ⟨0, by decide, rfl⟩
  new := by intro k hk; have : k = 0 := by simp at hk; omega
            subst this; simp
  fin := fun h => by cases h
  big := by decide
  bad := fun _ => ⟨by decide, .inr ⟨0, by decide, by simp, by decide⟩⟩

set_option maxRecDepth 100000 in
set_option maxHeartbeats 4000000 in
theorem known (w : World) : Calls Try.prog 9 #[] w fun e w' => e = .returned (.bool true) ∧ Below w.heap.size w w' := by
  obtain ⟨V0, hV0⟩ : ∃ V, w.alloc (.cells #[.int .i64 0, .int .i64 3, .int .i64 0, .int .i64 5, .int .i64 1, .int .i64 0, .int .i64 0, .int .i64 0] 2) = V := ⟨_, rfl⟩
  have B0 := Lib.hid (show Below w.heap.size w V0 by subst hV0; exact (Below.refl _ _).alloc (Nat.le_refl _) _)
  have C := memoryAny V0 (some ⟨w.heap.size, 0, none⟩) 8 8 [0, 3, 0, 5, 1, 0, 0, 0] (by subst hV0; exact litRow w 2 [0, 3, 0, 5, 1, 0, 0, 0] (by decide)) (by omega)
  have HV0 := Lib.hid hV0
  clear hV0
  go_enter Try.func9, Try.ntmps9
  go_wp2_with fail
  rw [HV0.out]
  refine C.mono ?_
  clear C HV0
  rintro e w1 ⟨p, u, rfl, m1, o1, b1⟩
  obtain ⟨au, cu, rfl⟩ := ownShape o1
  simp only [List.length_cons, List.length_nil, Nat.reduceAdd]
  have M1 := Lib.hid m1
  have B1 := Lib.hid (B0.out.trans (b1.mono B0.out.size))
  clear m1 o1 b1 B0
  go_upto_region 2 with (fail)
  generalize hW1 : w1.alloc (.cells #[.int .i64 8, .slice au 8 cu, .int .i64 9] 33) = W1
  have f1 : Below w1.heap.size w1 W1 := by subst hW1; exact (Below.refl _ _).alloc (Nat.le_refl _) _
  have M1 := Lib.hid (M1.out.keep f1)
  have B1 := Lib.hid (B1.out.trans (f1.mono B1.out.size))
  clear f1 hW1
  obtain ⟨V1, hV1⟩ : ∃ V, W1.alloc (.cells #[.int .i64 0, .int .i64 3, .int .i64 0, .int .i64 5, .int .i64 1, .int .i64 0, .int .i64 3, .int .i64 0] 2) = V := ⟨_, rfl⟩
  have g1 : Below W1.heap.size W1 V1 := by subst hV1; exact (Below.refl _ _).alloc (Nat.le_refl _) _
  have M1 := Lib.hid (M1.out.keep g1)
  have B1 := Lib.hid (B1.out.trans (g1.mono B1.out.size))
  have C := memoryAny V1 (some ⟨W1.heap.size, 0, none⟩) 8 8 [0, 3, 0, 5, 1, 0, 3, 0] (by subst hV1; exact litRow W1 2 [0, 3, 0, 5, 1, 0, 3, 0] (by decide)) (by omega)
  have HV1 := Lib.hid hV1
  clear hV1 g1
  go_wp2_with fail
  rw [HV1.out]
  refine C.mono ?_
  clear C HV1
  rintro e w2 ⟨p2, u2, rfl, m2, o2, b2⟩
  obtain ⟨au2, cu2, rfl⟩ := ownShape o2
  simp only [List.length_cons, List.length_nil, Nat.reduceAdd]
  have M1 := Lib.hid (M1.out.keep b2)
  have M2 := Lib.hid m2
  have B2 := Lib.hid (B1.out.trans (b2.mono B1.out.size))
  clear m2 o2 b2 B1
  go_upto_region 3 with (fail)
  generalize hW2 : w2.alloc (.cells #[.int .i64 8, .slice au2 8 cu2, .int .i64 9] 33) = W2
  have f2 : Below w2.heap.size w2 W2 := by subst hW2; exact (Below.refl _ _).alloc (Nat.le_refl _) _
  have M1 := Lib.hid (M1.out.keep f2)
  have M2 := Lib.hid (M2.out.keep f2)
  have B2 := Lib.hid (B2.out.trans (f2.mono B2.out.size))
  clear f2 hW2
  go_wp2_with fail
  refine (reachAny M1.out path1).mono ?_
  rintro e w3 ⟨v, rfl, a3, q3, rfl, h3, b3⟩
  have R3 := Lib.hid (show Reads .i64 w3 a3 1 [3] from h3)
  have M1 := Lib.hid (M1.out.keep b3)
  have M2 := Lib.hid (M2.out.keep b3)
  have B3 := Lib.hid (B2.out.trans (b3.mono B2.out.size))
  clear h3 b3 B2
  simp only [Bool.false_eq_true, if_false, ints_len, List.length_cons, List.length_nil, Nat.reduceAdd, Bool.not_false]
  go_wp2_with fail
  refine (reachAny M2.out path2).mono ?_
  rintro e w4 ⟨v, rfl, a4, q4, rfl, h4, b4⟩
  have R3 := Lib.hid (R3.out.keep b4)
  have M1 := Lib.hid (M1.out.keep b4)
  have M2 := Lib.hid (M2.out.keep b4)
  have B4 := Lib.hid (B3.out.trans (b4.mono B3.out.size))
  clear h4 b4 B3
  simp only [if_true, List.length_nil, Bool.not_true]
  obtain ⟨V4, hV4⟩ : ∃ V, w4.alloc (.cells #[.int .i64 3] 3) = V := ⟨_, rfl⟩
  have g4 : Below w4.heap.size w4 V4 := by subst hV4; exact (Below.refl _ _).alloc (Nat.le_refl _) _
  have M1 := Lib.hid (M1.out.keep g4)
  have M2 := Lib.hid (M2.out.keep g4)
  have B4 := Lib.hid (B4.out.trans (g4.mono B4.out.size))
  have C := intsEq V4 a3 (some ⟨w4.heap.size, 0, none⟩) 1 q3 1 [3] (R3.out.keep g4) (by subst hV4; exact litRow w4 3 [3] (by decide)) (by omega)
  have HV4 := Lib.hid hV4
  clear hV4 g4
  go_wp2_with fail
  rw [HV4.out]
  refine C.mono ?_
  clear C HV4
  rintro e w5 ⟨rfl, b5⟩
  have M1 := Lib.hid (M1.out.keep b5)
  have M2 := Lib.hid (M2.out.keep b5)
  have B5 := Lib.hid (B4.out.trans (b5.mono B4.out.size))
  clear b5 B4
  go_wp2_with fail
  refine (soundAny M1.out path1).mono ?_
  rintro e w6 ⟨rfl, b6⟩
  rw [show soundV [0, 3, 0, 5, 1, 0, 0, 0] [3] false = 0 by decide]
  have M2 := Lib.hid (M2.out.keep b6)
  have B6 := Lib.hid (B5.out.trans (b6.mono B5.out.size))
  clear b6 B5
  go_wp2_with fail
  refine (soundAny M2.out path2).mono ?_
  rintro e w7 ⟨rfl, b7⟩
  rw [show soundV [0, 3, 0, 5, 1, 0, 3, 0] [3] true = 30 by decide]
  have B7 := Lib.hid (B6.out.trans (b7.mono B6.out.size))
  clear b7 B6
  go_wp2
  go_ret
  exact ⟨rfl, B7.out⟩

end Go.Proofs.Ytllgcnljpehgeaa.M2
