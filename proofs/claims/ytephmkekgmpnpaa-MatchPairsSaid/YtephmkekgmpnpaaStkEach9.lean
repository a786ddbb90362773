/-
  What Do of package stack does at every stack and operation, and at nil: what it is told, and what becomes of the items. Conditions: a stack as Stk says; a kind of 0 to 255. The calls of package stack where one stack is looked at; the example that every statement asks ('known'); what reaperref04.Same tells of equal lists. Conditions: a stack as Stk1 says; lists of at most a thousand.
-/
import Derived.Test.YtephmkekgmpnpaaStkDo9
namespace Go.Proofs.Ytephmkekgmpnpaa
open Go.RowKit

section
variable {w : World} {F : Nat → Prop} {p : Nat} {most : Int} {zs : List Int}

set_option maxHeartbeats 3200000 in
theorem doPushed (h : Stk w F p most zs) (x : Int) (hf : (zs.length : Int) < most) :
    Calls Try.prog 24 #[.pointer (some ⟨p, 0, none⟩), .agg #[.int .u8 1, .int .i32 x]] w fun e w' => e = .returned (.agg #[.int .u8 1, .int .i32 0]) ∧ Did F p most (zs ++ [x]) w w' := by
  go_enter Try.func24, Try.ntmps24
  go_upto_region 5 with (fail)
  generalize hW : ((w.alloc (.cells #[.int .u8 1, .int .i32 x] 43)).alloc (.cells #[.int .u8 0, .int .i32 0] 41)).alloc (.cells #[.func (.func 41) #[] #[], .func (.func 42) #[] #[], .func (.func 43) #[] #[]] 73) = W
  obtain ⟨o0, o1, b0, hb, a0, a1, a2⟩ := begunDo w _ _ W hW
  clear hW
  have C : Calls Try.prog _ _ W.drew fun e w' => e = .returned (.agg #[.int .u8 1, .int .i32 0]) ∧ Did F p most (zs ++ [x]) W.drew w' := doPushOk ((h.fresh hb).drew) x (by omega)
  have HX := Lib.hid (fun w1 (d : Did F p most (zs ++ [x]) W.drew w1) => d.boxed h.foot hb.drew (by omega) b0.lt)
  have HB := Lib.hid (show RBox W.drew (w.heap.size + 1) 0 0 from b0)
  clear h hb b0
  go_still_tail 6, (by kernel_rfl)
  clear o0 o1 a0 a1 a2
  change wpList _ _ _ _ _ W.drew
  generalize W.drew = W2 at *
  go_wp2_with fail
  refine C.mono ?_
  clear C
  rintro e w1 ⟨rfl, d⟩
  obtain ⟨h1, h2⟩ := HX.out w1 d
  have b1 : RBox w1 (w.heap.size + 1) 0 0 := h1.trans HB.out
  have c0 := b1.c0
  have c1 := b1.c1
  have f := b1.f
  have r := b1.set2 1 0
  have r0 := r.c0
  have r1 := r.c1
  have H2 := Lib.hid h2
  clear h1 h2 d b1 r HX
  go_wp2
  exact bodyPost_ret (v := .agg #[.int .u8 1, .int .i32 0]) (by simp [results, Try.results24, go_sem, r0, r1]) rfl ⟨rfl, H2.out _ _⟩

set_option maxHeartbeats 3200000 in
theorem doFull (h : Stk w F p most zs) (x : Int) (hf : ¬ (zs.length : Int) < most) :
    Calls Try.prog 24 #[.pointer (some ⟨p, 0, none⟩), .agg #[.int .u8 1, .int .i32 x]] w fun e w' => e = .returned (.agg #[.int .u8 3, .int .i32 0]) ∧ Did F p most zs w w' := by
  go_enter Try.func24, Try.ntmps24
  go_upto_region 5 with (fail)
  generalize hW : ((w.alloc (.cells #[.int .u8 1, .int .i32 x] 43)).alloc (.cells #[.int .u8 0, .int .i32 0] 41)).alloc (.cells #[.func (.func 41) #[] #[], .func (.func 42) #[] #[], .func (.func 43) #[] #[]] 73) = W
  obtain ⟨o0, o1, b0, hb, a0, a1, a2⟩ := begunDo w _ _ W hW
  clear hW
  have C : Calls Try.prog _ _ W.drew fun e w' => e = .returned (.agg #[.int .u8 3, .int .i32 0]) ∧ Did F p most zs W.drew w' := doPushFull ((h.fresh hb).drew) x (by omega)
  have HX := Lib.hid (fun w1 (d : Did F p most zs W.drew w1) => d.boxed h.foot hb.drew (by omega) b0.lt)
  have HB := Lib.hid (show RBox W.drew (w.heap.size + 1) 0 0 from b0)
  clear h hb b0
  go_still_tail 6, (by kernel_rfl)
  clear o0 o1 a0 a1 a2
  change wpList _ _ _ _ _ W.drew
  generalize W.drew = W2 at *
  go_wp2_with fail
  refine C.mono ?_
  clear C
  rintro e w1 ⟨rfl, d⟩
  obtain ⟨h1, h2⟩ := HX.out w1 d
  have b1 : RBox w1 (w.heap.size + 1) 0 0 := h1.trans HB.out
  have c0 := b1.c0
  have c1 := b1.c1
  have f := b1.f
  have r := b1.set2 3 0
  have r0 := r.c0
  have r1 := r.c1
  have H2 := Lib.hid h2
  clear h1 h2 d b1 r HX
  go_wp2
  exact bodyPost_ret (v := .agg #[.int .u8 3, .int .i32 0]) (by simp [results, Try.results24, go_sem, r0, r1]) rfl ⟨rfl, H2.out _ _⟩

set_option maxHeartbeats 3200000 in
theorem doPopped (y : Int) (h : Stk w F p most (zs ++ [y])) (x : Int) :
    Calls Try.prog 24 #[.pointer (some ⟨p, 0, none⟩), .agg #[.int .u8 2, .int .i32 x]] w fun e w' => e = .returned (.agg #[.int .u8 2, .int .i32 y]) ∧ Did F p most zs w w' := by
  go_enter Try.func24, Try.ntmps24
  go_upto_region 5 with (fail)
  generalize hW : ((w.alloc (.cells #[.int .u8 2, .int .i32 x] 43)).alloc (.cells #[.int .u8 0, .int .i32 0] 41)).alloc (.cells #[.func (.func 41) #[] #[], .func (.func 42) #[] #[], .func (.func 43) #[] #[]] 73) = W
  obtain ⟨o0, o1, b0, hb, a0, a1, a2⟩ := begunDo w _ _ W hW
  clear hW
  have C : Calls Try.prog _ _ W.drew fun e w' => e = .returned (.agg #[.int .u8 2, .int .i32 y]) ∧ Did F p most zs W.drew w' := doPopOk y ((h.fresh hb).drew) x
  have HX := Lib.hid (fun w1 (d : Did F p most zs W.drew w1) => d.boxed h.foot hb.drew (by omega) b0.lt)
  have HB := Lib.hid (show RBox W.drew (w.heap.size + 1) 0 0 from b0)
  clear h hb b0
  go_still_tail 6, (by kernel_rfl)
  clear o0 o1 a0 a1 a2
  change wpList _ _ _ _ _ W.drew
  generalize W.drew = W2 at *
  go_wp2_with fail
  refine C.mono ?_
  clear C
  rintro e w1 ⟨rfl, d⟩
  obtain ⟨h1, h2⟩ := HX.out w1 d
  have b1 : RBox w1 (w.heap.size + 1) 0 0 := h1.trans HB.out
  have c0 := b1.c0
  have c1 := b1.c1
  have f := b1.f
  have r := b1.set2 2 y
  have r0 := r.c0
  have r1 := r.c1
  have H2 := Lib.hid h2
  clear h1 h2 d b1 r HX
  go_wp2
  exact bodyPost_ret (v := .agg #[.int .u8 2, .int .i32 y]) (by simp [results, Try.results24, go_sem, r0, r1]) rfl ⟨rfl, H2.out _ _⟩

set_option maxHeartbeats 3200000 in
theorem doNone (h : Stk w F p most []) (x : Int) :
    Calls Try.prog 24 #[.pointer (some ⟨p, 0, none⟩), .agg #[.int .u8 2, .int .i32 x]] w fun e w' => e = .returned (.agg #[.int .u8 4, .int .i32 0]) ∧ Did F p most [] w w' := by
  go_enter Try.func24, Try.ntmps24
  go_upto_region 5 with (fail)
  generalize hW : ((w.alloc (.cells #[.int .u8 2, .int .i32 x] 43)).alloc (.cells #[.int .u8 0, .int .i32 0] 41)).alloc (.cells #[.func (.func 41) #[] #[], .func (.func 42) #[] #[], .func (.func 43) #[] #[]] 73) = W
  obtain ⟨o0, o1, b0, hb, a0, a1, a2⟩ := begunDo w _ _ W hW
  clear hW
  have C : Calls Try.prog _ _ W.drew fun e w' => e = .returned (.agg #[.int .u8 4, .int .i32 0]) ∧ Did F p most [] W.drew w' := doPopNone ((h.fresh hb).drew) x
  have HX := Lib.hid (fun w1 (d : Did F p most [] W.drew w1) => d.boxed h.foot hb.drew (by omega) b0.lt)
  have HB := Lib.hid (show RBox W.drew (w.heap.size + 1) 0 0 from b0)
  clear h hb b0
  go_still_tail 6, (by kernel_rfl)
  clear o0 o1 a0 a1 a2
  change wpList _ _ _ _ _ W.drew
  generalize W.drew = W2 at *
  go_wp2_with fail
  refine C.mono ?_
  clear C
  rintro e w1 ⟨rfl, d⟩
  obtain ⟨h1, h2⟩ := HX.out w1 d
  have b1 : RBox w1 (w.heap.size + 1) 0 0 := h1.trans HB.out
  have c0 := b1.c0
  have c1 := b1.c1
  have f := b1.f
  have r := b1.set2 4 0
  have r0 := r.c0
  have r1 := r.c1
  have H2 := Lib.hid h2
  clear h1 h2 d b1 r HX
  go_wp2
  exact bodyPost_ret (v := .agg #[.int .u8 4, .int .i32 0]) (by simp [results, Try.results24, go_sem, r0, r1]) rfl ⟨rfl, H2.out _ _⟩

set_option maxHeartbeats 3200000 in
theorem doBad0 (h : Stk w F p most zs) (x : Int) :
    Calls Try.prog 24 #[.pointer (some ⟨p, 0, none⟩), .agg #[.int .u8 0, .int .i32 x]] w fun e w' => e = .returned (.agg #[.int .u8 5, .int .i32 0]) ∧ Did F p most zs w w' := by
  go_enter Try.func24, Try.ntmps24
  go_upto_region 5 with (fail)
  generalize hW : ((w.alloc (.cells #[.int .u8 0, .int .i32 x] 43)).alloc (.cells #[.int .u8 0, .int .i32 0] 41)).alloc (.cells #[.func (.func 41) #[] #[], .func (.func 42) #[] #[], .func (.func 43) #[] #[]] 73) = W
  obtain ⟨o0, o1, b0, hb, a0, a1, a2⟩ := begunDo w _ _ W hW
  clear hW
  have C : Calls Try.prog _ _ W.drew fun e w' => e = .returned (.agg #[.int .u8 5, .int .i32 0]) ∧ Did F p most zs W.drew w' := (refuseAny (some ⟨p, 0, none⟩) x W.drew).mono fun e w' ⟨he, hq⟩ => ⟨he, ((h.fresh hb).drew).did hq⟩
  have HX := Lib.hid (fun w1 (d : Did F p most zs W.drew w1) => d.boxed h.foot hb.drew (by omega) b0.lt)
  have HB := Lib.hid (show RBox W.drew (w.heap.size + 1) 0 0 from b0)
  clear h hb b0
  go_still_tail 6, (by kernel_rfl)
  clear o0 o1 a0 a1 a2
  change wpList _ _ _ _ _ W.drew
  generalize W.drew = W2 at *
  go_wp2_with fail
  refine C.mono ?_
  clear C
  rintro e w1 ⟨rfl, d⟩
  obtain ⟨h1, h2⟩ := HX.out w1 d
  have b1 : RBox w1 (w.heap.size + 1) 0 0 := h1.trans HB.out
  have c0 := b1.c0
  have c1 := b1.c1
  have f := b1.f
  have r := b1.set2 5 0
  have r0 := r.c0
  have r1 := r.c1
  have H2 := Lib.hid h2
  clear h1 h2 d b1 r HX
  go_wp2
  exact bodyPost_ret (v := .agg #[.int .u8 5, .int .i32 0]) (by simp [results, Try.results24, go_sem, r0, r1]) rfl ⟨rfl, H2.out _ _⟩

set_option maxHeartbeats 3200000 in
theorem doBad3 (h : Stk w F p most zs) (k x : Int) (k0 : 3 ≤ k) (k1 : k ≤ 255) :
    Calls Try.prog 24 #[.pointer (some ⟨p, 0, none⟩), .agg #[.int .u8 k, .int .i32 x]] w fun e w' => e = .returned (.agg #[.int .u8 5, .int .i32 0]) ∧ Did F p most zs w w' := by
  go_enter Try.func24, Try.ntmps24
  go_upto_region 5 with (fail)
  generalize hW : ((w.alloc (.cells #[.int .u8 k, .int .i32 x] 43)).alloc (.cells #[.int .u8 0, .int .i32 0] 41)).alloc (.cells #[.func (.func 41) #[] #[], .func (.func 42) #[] #[], .func (.func 43) #[] #[]] 73) = W
  obtain ⟨o0, o1, b0, hb, a0, a1, a2⟩ := begunDo w _ _ W hW
  clear hW
  have C : Calls Try.prog _ _ W.drew fun e w' => e = .returned (.agg #[.int .u8 5, .int .i32 0]) ∧ Did F p most zs W.drew w' := (refuseAny (some ⟨p, 0, none⟩) x W.drew).mono fun e w' ⟨he, hq⟩ => ⟨he, ((h.fresh hb).drew).did hq⟩
  have HX := Lib.hid (fun w1 (d : Did F p most zs W.drew w1) => d.boxed h.foot hb.drew (by omega) b0.lt)
  have HB := Lib.hid (show RBox W.drew (w.heap.size + 1) 0 0 from b0)
  clear h hb b0
  go_still_tail 6, (by kernel_rfl)
  clear o0 o1 a0 a1 a2
  change wpList _ _ _ _ _ W.drew
  generalize W.drew = W2 at *
  go_wp2_with fail
  refine C.mono ?_
  clear C
  rintro e w1 ⟨rfl, d⟩
  obtain ⟨h1, h2⟩ := HX.out w1 d
  have b1 : RBox w1 (w.heap.size + 1) 0 0 := h1.trans HB.out
  have c0 := b1.c0
  have c1 := b1.c1
  have f := b1.f
  have r := b1.set2 5 0
  have r0 := r.c0
  have r1 := r.c1
  have H2 := Lib.hid h2
  clear h1 h2 d b1 r HX
  go_wp2
  exact bodyPost_ret (v := .agg #[.int .u8 5, .int .i32 0]) (by simp [results, Try.results24, go_sem, r0, r1]) rfl ⟨rfl, H2.out _ _⟩

set_option maxHeartbeats 3200000 in
theorem doNilPush (w : World) (x : Int) :
    Calls Try.prog 24 #[.pointer none, .agg #[.int .u8 1, .int .i32 x]] w fun e w' => e = .returned (.agg #[.int .u8 3, .int .i32 0]) ∧ Below w.heap.size w w' := by
  go_enter Try.func24, Try.ntmps24
  go_upto_region 5 with (fail)
  generalize hW : ((w.alloc (.cells #[.int .u8 1, .int .i32 x] 43)).alloc (.cells #[.int .u8 0, .int .i32 0] 41)).alloc (.cells #[.func (.func 41) #[] #[], .func (.func 42) #[] #[], .func (.func 43) #[] #[]] 73) = W
  obtain ⟨o0, o1, b0, hb, a0, a1, a2⟩ := begunDo w _ _ W hW
  clear hW
  have C := doPushNil W.drew x
  have HB := Lib.hid (show RBox W.drew (w.heap.size + 1) 0 0 from b0)
  have HD := Lib.hid hb.drew
  clear hb b0
  go_still_tail 6, (by kernel_rfl)
  clear o0 o1 a0 a1 a2
  change wpList _ _ _ _ _ W.drew
  generalize W.drew = W2 at *
  go_wp2_with fail
  refine C.mono ?_
  clear C
  rintro e w1 ⟨rfl, d⟩
  have b1 : RBox w1 (w.heap.size + 1) 0 0 := (d.block _ HB.out.lt).trans HB.out
  have c0 := b1.c0
  have c1 := b1.c1
  have f := b1.f
  have r := b1.set2 3 0
  have r0 := r.c0
  have r1 := r.c1
  have H2 := Lib.hid (HD.out.trans (d.mono HD.out.size))
  clear d b1 r
  go_wp2
  exact bodyPost_ret (v := .agg #[.int .u8 3, .int .i32 0]) (by simp [results, Try.results24, go_sem, r0, r1]) rfl ⟨rfl, (H2.out.setCell (p := ⟨w.heap.size + 1, 0, none⟩) (by simp) _).setCell (p := ⟨w.heap.size + 1, 1, none⟩) (by simp) _⟩

/-- Do, whatever the operation is. -/
theorem doAny (h : Stk w F p most zs) (k x : Int) (k0 : 0 ≤ k) (k1 : k ≤ 255) :
    Calls Try.prog 24 #[.pointer (some ⟨p, 0, none⟩), .agg #[.int .u8 k, .int .i32 x]] w fun e w' => e = .returned (.agg #[.int .u8 (stkC most zs k), .int .i32 (stkV zs k)]) ∧ Did F p most (stkL most zs k x) w w' := by
  rcases (show k = 0 ∨ k = 1 ∨ k = 2 ∨ 3 ≤ k from by omega) with e | e | e | e
  · subst e
    exact doBad0 h x
  · subst e
    by_cases hf : (zs.length : Int) < most
    · have := doPushed h x hf
      simpa [stkC, stkV, stkL, hf] using this
    · have := doFull h x hf
      simpa [stkC, stkV, stkL, hf] using this
  · subst e
    rcases List.eq_nil_or_concat zs with e | ⟨ys, y, e⟩
    · subst e
      have := doNone h x
      simpa [stkC, stkV, stkL] using this
    · rw [List.concat_eq_append] at e
      subst e
      have := doPopped y h x
      simpa [stkC, stkV, stkL] using this
  · have := doBad3 h k x e k1
    simpa [stkC, stkV, stkL, show ¬ k = 1 by omega, show ¬ k = 2 by omega] using this
end

/-- A stack all of whose blocks stand from B on. -/
def Stk1 (w : World) (B p : Nat) (most : Int) (zs : List Int) : Prop := ∃ F, Stk w F p most zs ∧ ∀ g, F g → B ≤ g

section
variable {w w' : World} {F : Nat → Prop} {B p : Nat} {most : Int} {zs : List Int}

theorem Did.one {zs' : List Int} (h : Stk w F p most zs) (hF : ∀ g, F g → B ≤ g) (d : Did F p most zs' w w') : Stk1 w' B p most zs' ∧ Below B w w' := by
  obtain ⟨F', s, wr, l⟩ := d
  have hB : B ≤ w.heap.size := Nat.le_of_lt (Nat.lt_of_le_of_lt (hF p h.in) h.lt)
  refine ⟨⟨F', s, fun g hg => ?_⟩, wr.below hB hF⟩
  rcases l g hg with h1 | h1
  · exact hF g h1
  · omega
theorem Stk1.fresh (h : Stk1 w B p most zs) (hb : Below w.heap.size w w') : Stk1 w' B p most zs := by obtain ⟨F, s, hF⟩ := h; exact ⟨F, s.fresh hb, hF⟩
theorem Stk1.len (h : Stk1 w B p most zs) : zs.length ≤ 1000 := by obtain ⟨F, s, _⟩ := h; exact s.len
theorem Stk1.room (h : Stk1 w B p most zs) : (zs.length : Int) ≤ most := by obtain ⟨F, s, _⟩ := h; exact s.room
theorem Stk1.base (h : Stk1 w B p most zs) : B ≤ w.heap.size := by obtain ⟨F, s, hF⟩ := h; exact Nat.le_of_lt (Nat.lt_of_le_of_lt (hF p s.in) s.lt)

theorem new1 (n : Int) (w : World) :
    Calls Try.prog 27 #[.int .i64 n] w fun e w' => e = .returned (.pointer (some ⟨w.heap.size, 0, none⟩)) ∧ Stk1 w' w.heap.size w.heap.size (mostOf n) [] ∧ Below w.heap.size w w' :=
  (newAny n w).mono fun _ _ ⟨he, s, b⟩ => ⟨he, ⟨_, s, fun _ hg => hg.1⟩, b⟩
theorem len1 (h : Stk1 w B p most zs) : Calls Try.prog 34 #[.pointer (some ⟨p, 0, none⟩)] w fun e w' => e = .returned (.int .i64 zs.length) ∧ w = w' := by
  obtain ⟨F, s, _⟩ := h; exact lenAny s
theorem most1 (h : Stk1 w B p most zs) : Calls Try.prog 26 #[.pointer (some ⟨p, 0, none⟩)] w fun e w' => e = .returned (.int .i64 most) ∧ w = w' := by
  obtain ⟨F, s, _⟩ := h; exact mostAny s
theorem items1 (h : Stk1 w B p most zs) : Calls Try.prog 15 #[.pointer (some ⟨p, 0, none⟩)] w (Told w zs) := by
  obtain ⟨F, s, _⟩ := h; exact itemsAny s
theorem pushFull1 (h : Stk1 w B p most zs) (x : Int) (hf : ¬ (zs.length : Int) < most) :
    Calls Try.prog 28 #[.pointer (some ⟨p, 0, none⟩), .int .i32 x] w fun e w' => e = .returned (.bool false) ∧ w = w' := by
  obtain ⟨F, s, _⟩ := h; exact pushFull s x hf
theorem push1 (h : Stk1 w B p most zs) (x : Int) (hf : (zs.length : Int) < most) :
    Calls Try.prog 28 #[.pointer (some ⟨p, 0, none⟩), .int .i32 x] w fun e w' => e = .returned (.bool true) ∧ Stk1 w' B p most (zs ++ [x]) ∧ Below B w w' := by
  obtain ⟨F, s, hF⟩ := h
  exact (pushOk s x hf).mono fun _ _ ⟨he, d⟩ => ⟨he, d.one s hF⟩
theorem popNone1 (h : Stk1 w B p most []) :
    Calls Try.prog 38 #[.pointer (some ⟨p, 0, none⟩)] w fun e w' => e = .returned (.tuple #[.int .i32 0, .bool false]) ∧ w = w' := by
  obtain ⟨F, s, _⟩ := h; exact popNone s
theorem pop1 (y : Int) (h : Stk1 w B p most (zs ++ [y])) :
    Calls Try.prog 38 #[.pointer (some ⟨p, 0, none⟩)] w fun e w' => e = .returned (.tuple #[.int .i32 y, .bool true]) ∧ Stk1 w' B p most zs ∧ Below B w w' := by
  obtain ⟨F, s, hF⟩ := h
  exact (popOk y s).mono fun _ _ ⟨he, d⟩ => ⟨he, d.one s hF⟩
theorem do1 (h : Stk1 w B p most zs) (k x : Int) (k0 : 0 ≤ k) (k1 : k ≤ 255) :
    Calls Try.prog 24 #[.pointer (some ⟨p, 0, none⟩), .agg #[.int .u8 k, .int .i32 x]] w fun e w' => e = .returned (.agg #[.int .u8 (stkC most zs k), .int .i32 (stkV zs k)]) ∧ Stk1 w' B p most (stkL most zs k x) ∧ Below B w w' := by
  obtain ⟨F, s, hF⟩ := h
  exact (doAny s k x k0 k1).mono fun _ _ ⟨he, d⟩ => ⟨he, d.one s hF⟩
end

end Go.Proofs.Ytephmkekgmpnpaa
