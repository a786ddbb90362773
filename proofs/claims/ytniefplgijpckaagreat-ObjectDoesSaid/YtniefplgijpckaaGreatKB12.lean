/-
  What Do of package stack does at every stack and operation, and at nil: what it is told, and what becomes of the items. Conditions: a stack as Stk says; a kind of 0 to 255. The calls of package stack where one stack is looked at; the example that every statement asks ('known'); what reaperref04.Same tells of equal lists. Conditions: a stack as Stk1 says; lists of at most a thousand. A stack in a walk: what is known of it, of boxes and of lists beside it, between the calls. Conditions: none; no Go function is walked here. What Items, Copy and Do of package stack do, at every stack and at nil. Conditions: a stack as Stk says.
-/
import Derived.Test.YtniefplgijpckaaGreatKA12
namespace Go.Proofs.YtniefplgijpckaaGreat.K9
open Go.RowKit

section
variable {w : World} {F : Nat → Prop} {p : Nat} {most : Int} {zs : List Int}

set_option maxRecDepth 100000 in
set_option maxHeartbeats 3200000 in
theorem doPushed (h : Stk w F p most zs) (x : Int) (hf : (zs.length : Int) < most) :
    Calls Tryz.prog 78 #[.pointer (some ⟨p, 0, none⟩), .agg #[.int .u8 1, .int .i32 x]] w fun e w' => e = .returned (.agg #[.int .u8 1, .int .i32 0]) ∧ Did F p most (zs ++ [x]) w w' := by
  go_enter Tryz.func78, Tryz.ntmps78
  go_upto_region 5 with (fail)
  generalize hW : ((w.alloc (.cells #[.int .u8 1, .int .i32 x] 49)).alloc (.cells #[.int .u8 0, .int .i32 0] 53)).alloc (.cells #[.func (.func 87) #[] #[], .func (.func 88) #[] #[], .func (.func 89) #[] #[]] 155) = W
  obtain ⟨o0, o1, b0, hb, a0, a1, a2⟩ := begunDo w _ _ W hW
  clear hW
  have C : Calls Tryz.prog _ _ W.drew fun e w' => e = .returned (.agg #[.int .u8 1, .int .i32 0]) ∧ Did F p most (zs ++ [x]) W.drew w' := doPushOk ((h.fresh hb).drew) x (by omega)
  have HX := Lib.hid (fun w1 (d : Did F p most (zs ++ [x]) W.drew w1) => d.boxed h.foot hb.drew (by omega) b0.lt)
  have HB := Lib.hid (show RBox W.drew (w.heap.size + 1) 0 0 from b0)
  clear h hb b0
  go_still_tail 6, (by kernel_rfl)
  clear o0 o1 a0 a1 a2
  change wpList _ _ _ _ _ W.drew
  generalize W.drew = W2 at *
  go_wp2_with fail
  refine C.mono ?_
  clear C
  rintro e w1 ⟨rfl, d⟩
  obtain ⟨h1, h2⟩ := HX.out w1 d
  have b1 : RBox w1 (w.heap.size + 1) 0 0 := h1.trans HB.out
  have c0 := b1.c0
  have c1 := b1.c1
  have f := b1.f
  have r := b1.set2 1 0
  have r0 := r.c0
  have r1 := r.c1
  have H2 := Lib.hid h2
  clear h1 h2 d b1 r HX
  go_wp2
  exact bodyPost_ret (v := .agg #[.int .u8 1, .int .i32 0]) (by simp [results, Tryz.results78, go_sem, r0, r1]) rfl ⟨rfl, H2.out _ _⟩

set_option maxRecDepth 100000 in
set_option maxHeartbeats 3200000 in
theorem doFull (h : Stk w F p most zs) (x : Int) (hf : ¬ (zs.length : Int) < most) :
    Calls Tryz.prog 78 #[.pointer (some ⟨p, 0, none⟩), .agg #[.int .u8 1, .int .i32 x]] w fun e w' => e = .returned (.agg #[.int .u8 3, .int .i32 0]) ∧ Did F p most zs w w' := by
  go_enter Tryz.func78, Tryz.ntmps78
  go_upto_region 5 with (fail)
  generalize hW : ((w.alloc (.cells #[.int .u8 1, .int .i32 x] 49)).alloc (.cells #[.int .u8 0, .int .i32 0] 53)).alloc (.cells #[.func (.func 87) #[] #[], .func (.func 88) #[] #[], .func (.func 89) #[] #[]] 155) = W
  obtain ⟨o0, o1, b0, hb, a0, a1, a2⟩ := begunDo w _ _ W hW
  clear hW
  have C : Calls Tryz.prog _ _ W.drew fun e w' => e = .returned (.agg #[.int .u8 3, .int .i32 0]) ∧ Did F p most zs W.drew w' := doPushFull ((h.fresh hb).drew) x (by omega)
  have HX := Lib.hid (fun w1 (d : Did F p most zs W.drew w1) => d.boxed h.foot hb.drew (by omega) b0.lt)
  have HB := Lib.hid (show RBox W.drew (w.heap.size + 1) 0 0 from b0)
  clear h hb b0
  go_still_tail 6, (by kernel_rfl)
  clear o0 o1 a0 a1 a2
  change wpList _ _ _ _ _ W.drew
  generalize W.drew = W2 at *
  go_wp2_with fail
  refine C.mono ?_
  clear C
  rintro e w1 ⟨rfl, d⟩
  obtain ⟨h1, h2⟩ := HX.out w1 d
  have b1 : RBox w1 (w.heap.size + 1) 0 0 := h1.trans HB.out
  have c0 := b1.c0
  have c1 := b1.c1
  have f := b1.f
  have r := b1.set2 3 0
  have r0 := r.c0
  have r1 := r.c1
  have H2 := Lib.hid h2
  clear h1 h2 d b1 r HX
  go_wp2
  exact bodyPost_ret (v := .agg #[.int .u8 3, .int .i32 0]) (by simp [results, Tryz.results78, go_sem, r0, r1]) rfl ⟨rfl, H2.out _ _⟩

set_option maxRecDepth 100000 in
set_option maxHeartbeats 3200000 in
theorem doPopped (y : Int) (h : Stk w F p most (zs ++ [y])) (x : Int) :
    Calls Tryz.prog 78 #[.pointer (some ⟨p, 0, none⟩), .agg #[.int .u8 2, .int .i32 x]] w fun e w' => e = .returned (.agg #[.int .u8 2, .int .i32 y]) ∧ Did F p most zs w w' := by
  go_enter Tryz.func78, Tryz.ntmps78
  go_upto_region 5 with (fail)
  generalize hW : ((w.alloc (.cells #[.int .u8 2, .int .i32 x] 49)).alloc (.cells #[.int .u8 0, .int .i32 0] 53)).alloc (.cells #[.func (.func 87) #[] #[], .func (.func 88) #[] #[], .func (.func 89) #[] #[]] 155) = W
  obtain ⟨o0, o1, b0, hb, a0, a1, a2⟩ := begunDo w _ _ W hW
  clear hW
  have C : Calls Tryz.prog _ _ W.drew fun e w' => e = .returned (.agg #[.int .u8 2, .int .i32 y]) ∧ Did F p most zs W.drew w' := doPopOk y ((h.fresh hb).drew) x
  have HX := Lib.hid (fun w1 (d : Did F p most zs W.drew w1) => d.boxed h.foot hb.drew (by omega) b0.lt)
  have HB := Lib.hid (show RBox W.drew (w.heap.size + 1) 0 0 from b0)
  clear h hb b0
  go_still_tail 6, (by kernel_rfl)
  clear o0 o1 a0 a1 a2
  change wpList _ _ _ _ _ W.drew
  generalize W.drew = W2 at *
  go_wp2_with fail
  refine C.mono ?_
  clear C
  rintro e w1 ⟨rfl, d⟩
  obtain ⟨h1, h2⟩ := HX.out w1 d
  have b1 : RBox w1 (w.heap.size + 1) 0 0 := h1.trans HB.out
  have c0 := b1.c0
  have c1 := b1.c1
  have f := b1.f
  have r := b1.set2 2 y
  have r0 := r.c0
  have r1 := r.c1
  have H2 := Lib.hid h2
  clear h1 h2 d b1 r HX
  go_wp2
  exact bodyPost_ret (v := .agg #[.int .u8 2, .int .i32 y]) (by simp [results, Tryz.results78, go_sem, r0, r1]) rfl ⟨rfl, H2.out _ _⟩

set_option maxRecDepth 100000 in
set_option maxHeartbeats 3200000 in
theorem doNone (h : Stk w F p most []) (x : Int) :
    Calls Tryz.prog 78 #[.pointer (some ⟨p, 0, none⟩), .agg #[.int .u8 2, .int .i32 x]] w fun e w' => e = .returned (.agg #[.int .u8 4, .int .i32 0]) ∧ Did F p most [] w w' := by
  go_enter Tryz.func78, Tryz.ntmps78
  go_upto_region 5 with (fail)
  generalize hW : ((w.alloc (.cells #[.int .u8 2, .int .i32 x] 49)).alloc (.cells #[.int .u8 0, .int .i32 0] 53)).alloc (.cells #[.func (.func 87) #[] #[], .func (.func 88) #[] #[], .func (.func 89) #[] #[]] 155) = W
  obtain ⟨o0, o1, b0, hb, a0, a1, a2⟩ := begunDo w _ _ W hW
  clear hW
  have C : Calls Tryz.prog _ _ W.drew fun e w' => e = .returned (.agg #[.int .u8 4, .int .i32 0]) ∧ Did F p most [] W.drew w' := doPopNone ((h.fresh hb).drew) x
  have HX := Lib.hid (fun w1 (d : Did F p most [] W.drew w1) => d.boxed h.foot hb.drew (by omega) b0.lt)
  have HB := Lib.hid (show RBox W.drew (w.heap.size + 1) 0 0 from b0)
  clear h hb b0
  go_still_tail 6, (by kernel_rfl)
  clear o0 o1 a0 a1 a2
  change wpList _ _ _ _ _ W.drew
  generalize W.drew = W2 at *
  go_wp2_with fail
  refine C.mono ?_
  clear C
  rintro e w1 ⟨rfl, d⟩
  obtain ⟨h1, h2⟩ := HX.out w1 d
  have b1 : RBox w1 (w.heap.size + 1) 0 0 := h1.trans HB.out
  have c0 := b1.c0
  have c1 := b1.c1
  have f := b1.f
  have r := b1.set2 4 0
  have r0 := r.c0
  have r1 := r.c1
  have H2 := Lib.hid h2
  clear h1 h2 d b1 r HX
  go_wp2
  exact bodyPost_ret (v := .agg #[.int .u8 4, .int .i32 0]) (by simp [results, Tryz.results78, go_sem, r0, r1]) rfl ⟨rfl, H2.out _ _⟩

set_option maxRecDepth 100000 in
set_option maxHeartbeats 3200000 in
theorem doBad0 (h : Stk w F p most zs) (x : Int) :
    Calls Tryz.prog 78 #[.pointer (some ⟨p, 0, none⟩), .agg #[.int .u8 0, .int .i32 x]] w fun e w' => e = .returned (.agg #[.int .u8 5, .int .i32 0]) ∧ Did F p most zs w w' := by
  go_enter Tryz.func78, Tryz.ntmps78
  go_upto_region 5 with (fail)
  generalize hW : ((w.alloc (.cells #[.int .u8 0, .int .i32 x] 49)).alloc (.cells #[.int .u8 0, .int .i32 0] 53)).alloc (.cells #[.func (.func 87) #[] #[], .func (.func 88) #[] #[], .func (.func 89) #[] #[]] 155) = W
  obtain ⟨o0, o1, b0, hb, a0, a1, a2⟩ := begunDo w _ _ W hW
  clear hW
  have C : Calls Tryz.prog _ _ W.drew fun e w' => e = .returned (.agg #[.int .u8 5, .int .i32 0]) ∧ Did F p most zs W.drew w' := (refuseAny (some ⟨p, 0, none⟩) x W.drew).mono fun e w' ⟨he, hq⟩ => ⟨he, ((h.fresh hb).drew).did hq⟩
  have HX := Lib.hid (fun w1 (d : Did F p most zs W.drew w1) => d.boxed h.foot hb.drew (by omega) b0.lt)
  have HB := Lib.hid (show RBox W.drew (w.heap.size + 1) 0 0 from b0)
  clear h hb b0
  go_still_tail 6, (by kernel_rfl)
  clear o0 o1 a0 a1 a2
  change wpList _ _ _ _ _ W.drew
  generalize W.drew = W2 at *
  go_wp2_with fail
  refine C.mono ?_
  clear C
  rintro e w1 ⟨rfl, d⟩
  obtain ⟨h1, h2⟩ := HX.out w1 d
  have b1 : RBox w1 (w.heap.size + 1) 0 0 := h1.trans HB.out
  have c0 := b1.c0
  have c1 := b1.c1
  have f := b1.f
  have r := b1.set2 5 0
  have r0 := r.c0
  have r1 := r.c1
  have H2 := Lib.hid h2
  clear h1 h2 d b1 r HX
  go_wp2
  exact bodyPost_ret (v := .agg #[.int .u8 5, .int .i32 0]) (by simp [results, Tryz.results78, go_sem, r0, r1]) rfl ⟨rfl, H2.out _ _⟩

set_option maxRecDepth 100000 in
set_option maxHeartbeats 3200000 in
theorem doBad3 (h : Stk w F p most zs) (k x : Int) (k0 : 3 ≤ k) (k1 : k ≤ 255) :
    Calls Tryz.prog 78 #[.pointer (some ⟨p, 0, none⟩), .agg #[.int .u8 k, .int .i32 x]] w fun e w' => e = .returned (.agg #[.int .u8 5, .int .i32 0]) ∧ Did F p most zs w w' := by
  go_enter Tryz.func78, Tryz.ntmps78
  go_upto_region 5 with (fail)
  generalize hW : ((w.alloc (.cells #[.int .u8 k, .int .i32 x] 49)).alloc (.cells #[.int .u8 0, .int .i32 0] 53)).alloc (.cells #[.func (.func 87) #[] #[], .func (.func 88) #[] #[], .func (.func 89) #[] #[]] 155) = W
  obtain ⟨o0, o1, b0, hb, a0, a1, a2⟩ := begunDo w _ _ W hW
  clear hW
  have C : Calls Tryz.prog _ _ W.drew fun e w' => e = .returned (.agg #[.int .u8 5, .int .i32 0]) ∧ Did F p most zs W.drew w' := (refuseAny (some ⟨p, 0, none⟩) x W.drew).mono fun e w' ⟨he, hq⟩ => ⟨he, ((h.fresh hb).drew).did hq⟩
  have HX := Lib.hid (fun w1 (d : Did F p most zs W.drew w1) => d.boxed h.foot hb.drew (by omega) b0.lt)
  have HB := Lib.hid (show RBox W.drew (w.heap.size + 1) 0 0 from b0)
  clear h hb b0
  go_still_tail 6, (by kernel_rfl)
  clear o0 o1 a0 a1 a2
  change wpList _ _ _ _ _ W.drew
  generalize W.drew = W2 at *
  go_wp2_with fail
  refine C.mono ?_
  clear C
  rintro e w1 ⟨rfl, d⟩
  obtain ⟨h1, h2⟩ := HX.out w1 d
  have b1 : RBox w1 (w.heap.size + 1) 0 0 := h1.trans HB.out
  have c0 := b1.c0
  have c1 := b1.c1
  have f := b1.f
  have r := b1.set2 5 0
  have r0 := r.c0
  have r1 := r.c1
  have H2 := Lib.hid h2
  clear h1 h2 d b1 r HX
  go_wp2
  exact bodyPost_ret (v := .agg #[.int .u8 5, .int .i32 0]) (by simp [results, Tryz.results78, go_sem, r0, r1]) rfl ⟨rfl, H2.out _ _⟩

set_option maxRecDepth 100000 in
set_option maxHeartbeats 3200000 in
theorem doNilPush (w : World) (x : Int) :
    Calls Tryz.prog 78 #[.pointer none, .agg #[.int .u8 1, .int .i32 x]] w fun e w' => e = .returned (.agg #[.int .u8 3, .int .i32 0]) ∧ Below w.heap.size w w' := by
  go_enter Tryz.func78, Tryz.ntmps78
  go_upto_region 5 with (fail)
  generalize hW : ((w.alloc (.cells #[.int .u8 1, .int .i32 x] 49)).alloc (.cells #[.int .u8 0, .int .i32 0] 53)).alloc (.cells #[.func (.func 87) #[] #[], .func (.func 88) #[] #[], .func (.func 89) #[] #[]] 155) = W
  obtain ⟨o0, o1, b0, hb, a0, a1, a2⟩ := begunDo w _ _ W hW
  clear hW
  have C := doPushNil W.drew x
  have HB := Lib.hid (show RBox W.drew (w.heap.size + 1) 0 0 from b0)
  have HD := Lib.hid hb.drew
  clear hb b0
  go_still_tail 6, (by kernel_rfl)
  clear o0 o1 a0 a1 a2
  change wpList _ _ _ _ _ W.drew
  generalize W.drew = W2 at *
  go_wp2_with fail
  refine C.mono ?_
  clear C
  rintro e w1 ⟨rfl, d⟩
  have b1 : RBox w1 (w.heap.size + 1) 0 0 := (d.block _ HB.out.lt).trans HB.out
  have c0 := b1.c0
  have c1 := b1.c1
  have f := b1.f
  have r := b1.set2 3 0
  have r0 := r.c0
  have r1 := r.c1
  have H2 := Lib.hid (HD.out.trans (d.mono HD.out.size))
  clear d b1 r
  go_wp2
  exact bodyPost_ret (v := .agg #[.int .u8 3, .int .i32 0]) (by simp [results, Tryz.results78, go_sem, r0, r1]) rfl ⟨rfl, (H2.out.setCell (p := ⟨w.heap.size + 1, 0, none⟩) (by simp) _).setCell (p := ⟨w.heap.size + 1, 1, none⟩) (by simp) _⟩

/-- Do, whatever the operation is. -/
theorem doAny (h : Stk w F p most zs) (k x : Int) (k0 : 0 ≤ k) (k1 : k ≤ 255) :
    Calls Tryz.prog 78 #[.pointer (some ⟨p, 0, none⟩), .agg #[.int .u8 k, .int .i32 x]] w fun e w' => e = .returned (.agg #[.int .u8 (stkC most zs k), .int .i32 (stkV zs k)]) ∧ Did F p most (stkL most zs k x) w w' := by
  rcases (show k = 0 ∨ k = 1 ∨ k = 2 ∨ 3 ≤ k from by omega) with e | e | e | e
  · subst e
    exact doBad0 h x
  · subst e
    by_cases hf : (zs.length : Int) < most
    · have := doPushed h x hf
      simpa [stkC, stkV, stkL, hf] using this
    · have := doFull h x hf
      simpa [stkC, stkV, stkL, hf] using this
  · subst e
    rcases List.eq_nil_or_concat zs with e | ⟨ys, y, e⟩
    · subst e
      have := doNone h x
      simpa [stkC, stkV, stkL] using this
    · rw [List.concat_eq_append] at e
      subst e
      have := doPopped y h x
      simpa [stkC, stkV, stkL] using this
  · have := doBad3 h k x e k1
    simpa [stkC, stkV, stkL, show ¬ k = 1 by omega, show ¬ k = 2 by omega] using this
end

/-- A stack all of whose blocks stand from B on. -/
def Stk1 (w : World) (B p : Nat) (most : Int) (zs : List Int) : Prop := ∃ F, Stk w F p most zs ∧ ∀ g, F g → B ≤ g

section
variable {w w' : World} {F : Nat → Prop} {B p : Nat} {most : Int} {zs : List Int}

theorem Did.one {zs' : List Int} (h : Stk w F p most zs) (hF : ∀ g, F g → B ≤ g) (d : Did F p most zs' w w') : Stk1 w' B p most zs' ∧ Below B w w' := by
  obtain ⟨F', s, wr, l⟩ := d
  have hB : B ≤ w.heap.size := Nat.le_of_lt (Nat.lt_of_le_of_lt (hF p h.in) h.lt)
  refine ⟨⟨F', s, fun g hg => ?_⟩, wr.below hB hF⟩
  rcases l g hg with h1 | h1
  · exact hF g h1
  · omega
theorem Stk1.fresh (h : Stk1 w B p most zs) (hb : Below w.heap.size w w') : Stk1 w' B p most zs := by obtain ⟨F, s, hF⟩ := h; exact ⟨F, s.fresh hb, hF⟩
theorem Stk1.len (h : Stk1 w B p most zs) : zs.length ≤ 1000 := by obtain ⟨F, s, _⟩ := h; exact s.len
theorem Stk1.room (h : Stk1 w B p most zs) : (zs.length : Int) ≤ most := by obtain ⟨F, s, _⟩ := h; exact s.room
theorem Stk1.base (h : Stk1 w B p most zs) : B ≤ w.heap.size := by obtain ⟨F, s, hF⟩ := h; exact Nat.le_of_lt (Nat.lt_of_le_of_lt (hF p s.in) s.lt)

theorem new1 (n : Int) (w : World) :
    Calls Tryz.prog 40 #[.int .i64 n] w fun e w' => e = .returned (.pointer (some ⟨w.heap.size, 0, none⟩)) ∧ Stk1 w' w.heap.size w.heap.size (mostOf n) [] ∧ Below w.heap.size w w' :=
  (newAny n w).mono fun _ _ ⟨he, s, b⟩ => ⟨he, ⟨_, s, fun _ hg => hg.1⟩, b⟩
theorem len1 (h : Stk1 w B p most zs) : Calls Tryz.prog 71 #[.pointer (some ⟨p, 0, none⟩)] w fun e w' => e = .returned (.int .i64 zs.length) ∧ w = w' := by
  obtain ⟨F, s, _⟩ := h; exact lenAny s
theorem most1 (h : Stk1 w B p most zs) : Calls Tryz.prog 79 #[.pointer (some ⟨p, 0, none⟩)] w fun e w' => e = .returned (.int .i64 most) ∧ w = w' := by
  obtain ⟨F, s, _⟩ := h; exact mostAny s
theorem items1 (h : Stk1 w B p most zs) : Calls Tryz.prog 70 #[.pointer (some ⟨p, 0, none⟩)] w (Told w zs) := by
  obtain ⟨F, s, _⟩ := h; exact itemsAny s
theorem pushFull1 (h : Stk1 w B p most zs) (x : Int) (hf : ¬ (zs.length : Int) < most) :
    Calls Tryz.prog 86 #[.pointer (some ⟨p, 0, none⟩), .int .i32 x] w fun e w' => e = .returned (.bool false) ∧ w = w' := by
  obtain ⟨F, s, _⟩ := h; exact pushFull s x hf
theorem push1 (h : Stk1 w B p most zs) (x : Int) (hf : (zs.length : Int) < most) :
    Calls Tryz.prog 86 #[.pointer (some ⟨p, 0, none⟩), .int .i32 x] w fun e w' => e = .returned (.bool true) ∧ Stk1 w' B p most (zs ++ [x]) ∧ Below B w w' := by
  obtain ⟨F, s, hF⟩ := h
  exact (pushOk s x hf).mono fun _ _ ⟨he, d⟩ => ⟨he, d.one s hF⟩
theorem popNone1 (h : Stk1 w B p most []) :
    Calls Tryz.prog 84 #[.pointer (some ⟨p, 0, none⟩)] w fun e w' => e = .returned (.tuple #[.int .i32 0, .bool false]) ∧ w = w' := by
  obtain ⟨F, s, _⟩ := h; exact popNone s
theorem pop1 (y : Int) (h : Stk1 w B p most (zs ++ [y])) :
    Calls Tryz.prog 84 #[.pointer (some ⟨p, 0, none⟩)] w fun e w' => e = .returned (.tuple #[.int .i32 y, .bool true]) ∧ Stk1 w' B p most zs ∧ Below B w w' := by
  obtain ⟨F, s, hF⟩ := h
  exact (popOk y s).mono fun _ _ ⟨he, d⟩ => ⟨he, d.one s hF⟩
theorem do1 (h : Stk1 w B p most zs) (k x : Int) (k0 : 0 ≤ k) (k1 : k ≤ 255) :
    Calls Tryz.prog 78 #[.pointer (some ⟨p, 0, none⟩), .agg #[.int .u8 k, .int .i32 x]] w fun e w' => e = .returned (.agg #[.int .u8 (stkC most zs k), .int .i32 (stkV zs k)]) ∧ Stk1 w' B p most (stkL most zs k x) ∧ Below B w w' := by
  obtain ⟨F, s, hF⟩ := h
  exact (doAny s k x k0 k1).mono fun _ _ ⟨he, d⟩ => ⟨he, d.one s hF⟩
end

end Go.Proofs.YtniefplgijpckaaGreat.K9
namespace Go.Proofs.YtniefplgijpckaaGreat.K9
open Go.RowKit

/-- A stack whose blocks are all new, and nothing old is touched. -/
def At (w : World) (F : Nat → Prop) (p : Nat) (most : Int) (zs : List Int) (wr : World) : Prop := Stk wr F p most zs ∧ Below w.heap.size w wr ∧ ∀ g, F g → w.heap.size ≤ g

section
variable {w a b : World} {F G : Nat → Prop} {p : Nat} {most : Int} {zs zs' : List Int}
theorem At.new {n : Int} (h : Stk b (New w b) p n zs) (hb : Below w.heap.size w b) : At w (New w b) p n zs b := ⟨h, hb, fun _ hg => hg.1⟩
theorem At.fresh (h : At w F p most zs a) (hb : Below a.heap.size a b) : At w F p most zs b := ⟨h.1.fresh hb, h.2.1.trans (hb.mono h.2.1.size), h.2.2⟩
theorem At.drew (h : At w F p most zs a) : At w F p most zs a.drew := h.fresh (Below.refl _ _).drew
theorem At.next (h : At w F p most zs a) (d : Did F p most zs' a b) : ∃ F', At w F' p most zs' b ∧ Wrote F a b ∧ Later F F' a := by
  obtain ⟨F', s, wr, l⟩ := d
  refine ⟨F', ⟨s, h.2.1.trans (wr.below h.2.1.size h.2.2), fun g hg => ?_⟩, wr, l⟩
  rcases l g hg with h1 | h1
  · exact h.2.2 g h1
  · exact Nat.le_trans h.2.1.size h1
theorem At.lt (h : At w F p most zs a) : ∀ g, F g → g < a.heap.size := h.1.foot
/-- Another one's call. -/
theorem At.apart {m2 : Int} {q : Nat} {ys ys' : List Int} (h : At w F p most zs a) (k : At w G q m2 ys a) (ha : Apart F G) (d : Did G q m2 ys' a b) : At w F p most zs b ∧ ∃ G', At w G' q m2 ys' b ∧ Apart F G' ∧ Wrote G a b ∧ Later G G' a := by
  obtain ⟨G', k2, wr, l⟩ := k.next d
  exact ⟨⟨h.1.apart wr ha, k2.2.1, h.2.2⟩, G', k2, (l.apart ha.symm h.lt).symm, wr, l⟩

/-- Numbers that lie beside a stack. -/
def Beside (F : Nat → Prop) (w : World) (ao : Option Addr) (n : Nat) (zs : List Int) : Prop := Reads .i32 w ao n zs ∧ Off F ao ∧ ∀ x, ao = some x → x.block < w.heap.size
theorem Beside.keep {ao : Option Addr} {n : Nat} (h : Beside F a ao n zs) (hb : Below a.heap.size a b) : Beside F b ao n zs := ⟨h.1.keep hb, h.2.1, fun x hx => Nat.lt_of_lt_of_le (h.2.2 x hx) hb.size⟩
theorem Beside.off {F' : Nat → Prop} {ao : Option Addr} {n : Nat} (h : Beside F a ao n zs) (hw : Wrote F a b) (l : Later F F' a) : Beside F' b ao n zs :=
  ⟨h.1.off h.2.1 hw, fun x hx => l.not (h.2.1 x hx) (h.2.2 x hx), fun x hx => Nat.lt_of_lt_of_le (h.2.2 x hx) hw.size⟩
/-- What is told lies beside the stack. -/
theorem beside_told {e : Ending} (hF : ∀ g, F g → g < a.heap.size) (h : Told a zs e b) : Beside F b (some ⟨a.heap.size, 0, none⟩) zs.length zs := by
  obtain ⟨_, ho, hb⟩ := h
  obtain ⟨ao, cap, e, hr, _, _⟩ := reads_own ho
  simp only [Value.slice.injEq] at e
  obtain ⟨rfl, _, _⟩ := e
  refine ⟨hr, fun x hx => ?_, fun x hx => ?_⟩
  · injection hx with hx
    subst hx
    intro hg
    have := hF a.heap.size hg
    omega
  · injection hx with hx
    subst hx
    exact (ho.lt a.heap.size rfl).2

theorem itemsBeside (h : Stk a F p most zs) (n : Nat) (hn : zs.length = n) :
    Calls Tryz.prog 70 #[.pointer (some ⟨p, 0, none⟩)] a fun e w' => e = .returned (.slice (some ⟨a.heap.size, 0, none⟩) n n) ∧ Beside F w' (some ⟨a.heap.size, 0, none⟩) n zs ∧ Below a.heap.size a w' := by
  subst hn
  exact (itemsAny h).mono fun _ _ t => ⟨t.1, beside_told h.foot t, t.2.2⟩
end

end Go.Proofs.YtniefplgijpckaaGreat.K9
namespace Go.Proofs.YtniefplgijpckaaGreat.K9
open Go.RowKit

section
variable {w : World} {F : Nat → Prop} {p : Nat} {most : Int} {zs : List Int}

set_option maxRecDepth 100000 in
set_option maxHeartbeats 1600000 in
theorem copyAny (h : Stk w F p most zs) :
    Calls Tryz.prog 75 #[.pointer (some ⟨p, 0, none⟩)] w (Copied w most zs) := by
  have C := itemsAny h
  have M := mostAny h
  have s0 := h.s0
  have s1 := h.s1
  have hr := h.room
  clear h
  go_enter Tryz.func75, Tryz.ntmps75
  go_wp2_with (first | (go_at_call 79; refine M.mono ?_; rintro e w' ⟨rfl, rfl⟩) | (go_at_call 70; refine C.mono ?_; rintro e w1 ⟨rfl, ho, hb⟩; have HO := Lib.hid ho; have HB := Lib.hid hb; clear ho hb))
  go_ret
  exact copied_mk s0 s1 hr HO.out HB.out

theorem copyNil (w : World) :
    Calls Tryz.prog 75 #[.pointer none] w (Copied w 0 []) := by
  go_enter Tryz.func75, Tryz.ntmps75
  go_wp2_with (first | (go_at_call 79; refine (mostNil _).mono ?_; rintro e w' ⟨rfl, rfl⟩) | (go_at_call 70; refine (itemsNil _).mono ?_; rintro e w' ⟨rfl, rfl⟩))
  go_ret
  exact copied_mk (zs := []) (by omega) (by omega) (by simp) (World.ownsRow_nil _ _ _ _) (Below.refl _ _)

end

end Go.Proofs.YtniefplgijpckaaGreat.K9
