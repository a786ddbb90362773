/-
  What Do of package ring does at nil; a deque or none. Conditions: a deque as Rng says.
-/
import Derived.Test.YtafocplahmfghaaRngDo10
namespace Go.Proofs.Ytafocplahmfghaa
open Go.RowKit

set_option maxHeartbeats 1600000 in
theorem doPushLNil (w : World) (x : Int) :
    Calls Try.prog 24 #[.pointer none, .agg #[.int .u8 1, .int .i32 x]] w fun e w' => e = .returned (.agg #[.int .u8 3, .int .i32 0]) ∧ Below w.heap.size w w' := by
  go_enter Try.func24, Try.ntmps24
  go_upto_region 1 with (fail)
  generalize hW : (w.alloc (.cells #[.int .u8 1, .int .i32 x] 42)).alloc (.cells #[.int .u8 0, .int .i32 0] 40) = W
  obtain ⟨o0, o1, b0, hb⟩ := begunDo w _ _ W hW
  clear hW
  have HB := Lib.hid hb
  have HZ := Lib.hid b0
  clear hb b0
  go_wp2_with fail
  refine (pushLNil W x).mono ?_
  rintro e w1 ⟨rfl, rfl⟩
  clear o0 o1
  go_wp2_with fail
  refine (putFalse W).mono ?_
  rintro e w2 ⟨rfl, b2⟩
  have b1 := HZ.out.keep b2
  have HB2 := Lib.hid (HB.out.trans (b2.mono HB.out.size))
  clear b2 HB
  have c0 := b1.c0
  have c1 := b1.c1
  have f := b1.f
  have r := b1.set2 3 0
  have r0 := r.c0
  have r1 := r.c1
  clear b1 r
  go_wp2
  exact bodyPost_ret (v := .agg #[.int .u8 3, .int .i32 0]) (by simp [results, Try.results24, go_sem, r0, r1]) rfl ⟨rfl, (HB2.out.setCell (p := ⟨w.heap.size + 1, 0, none⟩) (by simp) _).setCell (p := ⟨w.heap.size + 1, 1, none⟩) (by simp) _⟩

set_option maxHeartbeats 1600000 in
theorem doPushRNil (w : World) (x : Int) :
    Calls Try.prog 24 #[.pointer none, .agg #[.int .u8 2, .int .i32 x]] w fun e w' => e = .returned (.agg #[.int .u8 3, .int .i32 0]) ∧ Below w.heap.size w w' := by
  go_enter Try.func24, Try.ntmps24
  go_upto_region 1 with (fail)
  generalize hW : (w.alloc (.cells #[.int .u8 2, .int .i32 x] 42)).alloc (.cells #[.int .u8 0, .int .i32 0] 40) = W
  obtain ⟨o0, o1, b0, hb⟩ := begunDo w _ _ W hW
  clear hW
  have HB := Lib.hid hb
  have HZ := Lib.hid b0
  clear hb b0
  go_wp2_with fail
  refine (pushRNil W x).mono ?_
  rintro e w1 ⟨rfl, rfl⟩
  clear o0 o1
  go_wp2_with fail
  refine (putFalse W).mono ?_
  rintro e w2 ⟨rfl, b2⟩
  have b1 := HZ.out.keep b2
  have HB2 := Lib.hid (HB.out.trans (b2.mono HB.out.size))
  clear b2 HB
  have c0 := b1.c0
  have c1 := b1.c1
  have f := b1.f
  have r := b1.set2 3 0
  have r0 := r.c0
  have r1 := r.c1
  clear b1 r
  go_wp2
  exact bodyPost_ret (v := .agg #[.int .u8 3, .int .i32 0]) (by simp [results, Try.results24, go_sem, r0, r1]) rfl ⟨rfl, (HB2.out.setCell (p := ⟨w.heap.size + 1, 0, none⟩) (by simp) _).setCell (p := ⟨w.heap.size + 1, 1, none⟩) (by simp) _⟩

set_option maxHeartbeats 1600000 in
theorem doPopLNil (w : World) (x : Int) :
    Calls Try.prog 24 #[.pointer none, .agg #[.int .u8 3, .int .i32 x]] w fun e w' => e = .returned (.agg #[.int .u8 4, .int .i32 0]) ∧ Below w.heap.size w w' := by
  go_enter Try.func24, Try.ntmps24
  go_upto_region 1 with (fail)
  generalize hW : (w.alloc (.cells #[.int .u8 3, .int .i32 x] 42)).alloc (.cells #[.int .u8 0, .int .i32 0] 40) = W
  obtain ⟨o0, o1, b0, hb⟩ := begunDo w _ _ W hW
  clear hW
  have HB := Lib.hid hb
  have HZ := Lib.hid b0
  clear hb b0
  go_wp2_with fail
  refine (popLNil W).mono ?_
  rintro e w1 ⟨rfl, rfl⟩
  clear o0 o1
  go_wp2_with fail
  refine (takenFalse W 0).mono ?_
  rintro e w2 ⟨rfl, b2⟩
  have b1 := HZ.out.keep b2
  have HB2 := Lib.hid (HB.out.trans (b2.mono HB.out.size))
  clear b2 HB
  have c0 := b1.c0
  have c1 := b1.c1
  have f := b1.f
  have r := b1.set2 4 0
  have r0 := r.c0
  have r1 := r.c1
  clear b1 r
  go_wp2
  exact bodyPost_ret (v := .agg #[.int .u8 4, .int .i32 0]) (by simp [results, Try.results24, go_sem, r0, r1]) rfl ⟨rfl, (HB2.out.setCell (p := ⟨w.heap.size + 1, 0, none⟩) (by simp) _).setCell (p := ⟨w.heap.size + 1, 1, none⟩) (by simp) _⟩

set_option maxHeartbeats 1600000 in
theorem doPopRNil (w : World) (x : Int) :
    Calls Try.prog 24 #[.pointer none, .agg #[.int .u8 4, .int .i32 x]] w fun e w' => e = .returned (.agg #[.int .u8 4, .int .i32 0]) ∧ Below w.heap.size w w' := by
  go_enter Try.func24, Try.ntmps24
  go_upto_region 1 with (fail)
  generalize hW : (w.alloc (.cells #[.int .u8 4, .int .i32 x] 42)).alloc (.cells #[.int .u8 0, .int .i32 0] 40) = W
  obtain ⟨o0, o1, b0, hb⟩ := begunDo w _ _ W hW
  clear hW
  have HB := Lib.hid hb
  have HZ := Lib.hid b0
  clear hb b0
  go_wp2_with fail
  refine (popRNil W).mono ?_
  rintro e w1 ⟨rfl, rfl⟩
  clear o0 o1
  go_wp2_with fail
  refine (takenFalse W 0).mono ?_
  rintro e w2 ⟨rfl, b2⟩
  have b1 := HZ.out.keep b2
  have HB2 := Lib.hid (HB.out.trans (b2.mono HB.out.size))
  clear b2 HB
  have c0 := b1.c0
  have c1 := b1.c1
  have f := b1.f
  have r := b1.set2 4 0
  have r0 := r.c0
  have r1 := r.c1
  clear b1 r
  go_wp2
  exact bodyPost_ret (v := .agg #[.int .u8 4, .int .i32 0]) (by simp [results, Try.results24, go_sem, r0, r1]) rfl ⟨rfl, (HB2.out.setCell (p := ⟨w.heap.size + 1, 0, none⟩) (by simp) _).setCell (p := ⟨w.heap.size + 1, 1, none⟩) (by simp) _⟩

set_option maxHeartbeats 1600000 in
theorem doBadNil (w : World) (x k : Int) (n1 : k ≠ 1) (n2 : k ≠ 2) (n3 : k ≠ 3) (n4 : k ≠ 4) :
    Calls Try.prog 24 #[.pointer none, .agg #[.int .u8 k, .int .i32 x]] w fun e w' => e = .returned (.agg #[.int .u8 5, .int .i32 0]) ∧ Below w.heap.size w w' := by
  have d1 : (k == (1 : Int)) = false := beq_eq_false_iff_ne.2 n1
  have d2 : (k == (2 : Int)) = false := beq_eq_false_iff_ne.2 n2
  have d3 : (k == (3 : Int)) = false := beq_eq_false_iff_ne.2 n3
  have d4 : (k == (4 : Int)) = false := beq_eq_false_iff_ne.2 n4
  clear n1 n2 n3 n4
  go_enter Try.func24, Try.ntmps24
  go_upto_region 1 with (fail)
  generalize hW : (w.alloc (.cells #[.int .u8 k, .int .i32 x] 42)).alloc (.cells #[.int .u8 0, .int .i32 0] 40) = W
  obtain ⟨o0, o1, b1, hb⟩ := begunDo w _ _ W hW
  clear hW
  have HB2 := Lib.hid hb
  clear hb
  have c0 := b1.c0
  have c1 := b1.c1
  have f := b1.f
  have r := b1.set2 5 0
  have r0 := r.c0
  have r1 := r.c1
  clear b1 r
  go_wp2
  exact bodyPost_ret (v := .agg #[.int .u8 5, .int .i32 0]) (by simp [results, Try.results24, go_sem, r0, r1]) rfl ⟨rfl, (HB2.out.setCell (p := ⟨w.heap.size + 1, 0, none⟩) (by simp) _).setCell (p := ⟨w.heap.size + 1, 1, none⟩) (by simp) _⟩

theorem doNil (w : World) (k x : Int) :
    Calls Try.prog 24 #[.pointer none, .agg #[.int .u8 k, .int .i32 x]] w fun e w' => e = .returned (.agg #[.int .u8 (dqC 0 [] k), .int .i32 (dqV [] k)]) ∧ Below w.heap.size w w' := by
  by_cases h1 : k = 1
  · subst h1; exact (doPushLNil w x).mono fun _ _ ⟨a, b⟩ => ⟨by simpa [dqC, dqV] using a, b⟩
  by_cases h2 : k = 2
  · subst h2; exact (doPushRNil w x).mono fun _ _ ⟨a, b⟩ => ⟨by simpa [dqC, dqV] using a, b⟩
  by_cases h3 : k = 3
  · subst h3; exact (doPopLNil w x).mono fun _ _ ⟨a, b⟩ => ⟨by simpa [dqC, dqV] using a, b⟩
  by_cases h4 : k = 4
  · subst h4; exact (doPopRNil w x).mono fun _ _ ⟨a, b⟩ => ⟨by simpa [dqC, dqV] using a, b⟩
  exact (doBadNil w x k h1 h2 h3 h4).mono fun _ _ ⟨a, b⟩ => ⟨by simpa [dqC, dqV, h1, h2, h3, h4] using a, b⟩

/-- A deque, or none: as one of 0 without items. -/
def RngO (w : World) (F : Nat → Prop) (sp : Option Nat) (most : Int) (zs : List Int) : Prop :=
  match sp with
  | none => most = 0 ∧ zs = []
  | some p => Rng w F p most zs
/-- Its pointer. -/
def ptrO (sp : Option Nat) : Option Addr := sp.map fun p => ⟨p, 0, none⟩

section
variable {w w' : World} {F G : Nat → Prop} {sp : Option Nat} {most : Int} {zs : List Int}
theorem RngO.room (h : RngO w F sp most zs) : (zs.length : Int) ≤ most ∧ 0 ≤ most ∧ most ≤ 1000 := by
  cases sp with
  | none => obtain ⟨rfl, rfl⟩ := h; simp
  | some p => exact ⟨Rng.room h, Rng.s0 h, Rng.s1 h⟩
theorem RngO.apart (h : RngO w F sp most zs) (hw : Wrote G w w') (ha : Apart F G) : RngO w' F sp most zs := by
  cases sp with
  | none => exact h
  | some p => exact Rng.apart h hw ha
theorem RngO.fresh (h : RngO w F sp most zs) (hb : Below w.heap.size w w') : RngO w' F sp most zs := h.apart (Wrote.of hb (fun _ => False)) (fun _ _ h => h)
theorem lenO (h : RngO w F sp most zs) : Calls Try.prog 15 #[.pointer (ptrO sp)] w fun e w' => e = .returned (.int .i64 zs.length) ∧ w = w' := by
  cases sp with
  | none => obtain ⟨_, rfl⟩ := h; exact lenNil w
  | some p => exact lenAny h
theorem mostO (h : RngO w F sp most zs) : Calls Try.prog 27 #[.pointer (ptrO sp)] w fun e w' => e = .returned (.int .i64 most) ∧ w = w' := by
  cases sp with
  | none => obtain ⟨rfl, _⟩ := h; exact mostNil w
  | some p => exact mostAny h
/-- What a call on it leaves. -/
def DidO (F : Nat → Prop) (sp : Option Nat) (most : Int) (zs : List Int) (w w' : World) : Prop := ∃ F', RngO w' F' sp most zs ∧ Wrote F w w' ∧ Later F F' w ∧ ∀ g, F' g → g < w'.heap.size
theorem doO (h : RngO w F sp most zs) (hF : ∀ g, F g → g < w.heap.size) (k x : Int) :
    Calls Try.prog 24 #[.pointer (ptrO sp), .agg #[.int .u8 k, .int .i32 x]] w fun e w' => e = .returned (.agg #[.int .u8 (dqC most zs k), .int .i32 (dqV zs k)]) ∧ DidO F sp most (dqL most zs k x) w w' := by
  cases sp with
  | none =>
    obtain ⟨rfl, rfl⟩ := h
    refine (doNil w k x).mono fun e w' ⟨he, hb⟩ => ⟨he, F, ⟨rfl, ?_⟩, Wrote.of hb F, Later.refl _ _, fun g hg => Nat.lt_of_lt_of_le (hF g hg) hb.size⟩
    unfold dqL
    simp
  | some p => exact (doAny h k x).mono fun e w' ⟨he, F', r, wr, l⟩ => ⟨he, F', r, wr, l, Rng.foot r⟩
end

end Go.Proofs.Ytafocplahmfghaa
