/-
  What Do of package stack does at every stack and operation, and at nil: what it is told, and what becomes of the items. Conditions: a stack as Stk says; a kind of 0 to 255. The calls of package stack where one stack is looked at; the example that every statement asks ('known'); what reaperref04.Same tells of equal lists. Conditions: a stack as Stk1 says; lists of at most a thousand.
-/
import Derived.Test.YtikaoikladbdpaaGreatG0916
namespace Go.Proofs.YtikaoikladbdpaaGreat.K9
open Go.RowKit

section
variable {w : World} {F : Nat → Prop} {p : Nat} {most : Int} {zs : List Int}

set_option maxRecDepth 100000 in
set_option maxHeartbeats 3200000 in
theorem doPushed (h : Stk w F p most zs) (x : Int) (hf : (zs.length : Int) < most) :
    Calls Tryz.prog 160 #[.pointer (some ⟨p, 0, none⟩), .agg #[.int .u8 1, .int .i32 x]] w fun e w' => e = .returned (.agg #[.int .u8 1, .int .i32 0]) ∧ Did F p most (zs ++ [x]) w w' := by
  go_enter Tryz.func160, Tryz.ntmps160
  go_upto_region 5 with (fail)
  generalize hW : ((w.alloc (.cells #[.int .u8 1, .int .i32 x] 38)).alloc (.cells #[.int .u8 0, .int .i32 0] 74)).alloc (.cells #[.func (.func 169) #[] #[], .func (.func 170) #[] #[], .func (.func 171) #[] #[]] 233) = W
  obtain ⟨o0, o1, b0, hb, a0, a1, a2⟩ := begunDo w _ _ W hW
  clear hW
  have C : Calls Tryz.prog _ _ W.drew fun e w' => e = .returned (.agg #[.int .u8 1, .int .i32 0]) ∧ Did F p most (zs ++ [x]) W.drew w' := doPushOk ((h.fresh hb).drew) x (by omega)
  have HX := Lib.hid (fun w1 (d : Did F p most (zs ++ [x]) W.drew w1) => d.boxed h.foot hb.drew (by omega) b0.lt)
  have HB := Lib.hid (show RBox W.drew (w.heap.size + 1) 0 0 from b0)
  clear h hb b0
  go_still_tail 6, (by kernel_rfl)
  clear o0 o1 a0 a1 a2
  change wpList _ _ _ _ _ W.drew
  generalize W.drew = W2 at *
  go_wp2_with fail
  refine C.mono ?_
  clear C
  rintro e w1 ⟨rfl, d⟩
  obtain ⟨h1, h2⟩ := HX.out w1 d
  have b1 : RBox w1 (w.heap.size + 1) 0 0 := h1.trans HB.out
  have c0 := b1.c0
  have c1 := b1.c1
  have f := b1.f
  have r := b1.set2 1 0
  have r0 := r.c0
  have r1 := r.c1
  have H2 := Lib.hid h2
  clear h1 h2 d b1 r HX
  go_wp2
  exact bodyPost_ret (v := .agg #[.int .u8 1, .int .i32 0]) (by simp [results, Tryz.results160, go_sem, r0, r1]) rfl ⟨rfl, H2.out _ _⟩

set_option maxRecDepth 100000 in
set_option maxHeartbeats 3200000 in
theorem doFull (h : Stk w F p most zs) (x : Int) (hf : ¬ (zs.length : Int) < most) :
    Calls Tryz.prog 160 #[.pointer (some ⟨p, 0, none⟩), .agg #[.int .u8 1, .int .i32 x]] w fun e w' => e = .returned (.agg #[.int .u8 3, .int .i32 0]) ∧ Did F p most zs w w' := by
  go_enter Tryz.func160, Tryz.ntmps160
  go_upto_region 5 with (fail)
  generalize hW : ((w.alloc (.cells #[.int .u8 1, .int .i32 x] 38)).alloc (.cells #[.int .u8 0, .int .i32 0] 74)).alloc (.cells #[.func (.func 169) #[] #[], .func (.func 170) #[] #[], .func (.func 171) #[] #[]] 233) = W
  obtain ⟨o0, o1, b0, hb, a0, a1, a2⟩ := begunDo w _ _ W hW
  clear hW
  have C : Calls Tryz.prog _ _ W.drew fun e w' => e = .returned (.agg #[.int .u8 3, .int .i32 0]) ∧ Did F p most zs W.drew w' := doPushFull ((h.fresh hb).drew) x (by omega)
  have HX := Lib.hid (fun w1 (d : Did F p most zs W.drew w1) => d.boxed h.foot hb.drew (by omega) b0.lt)
  have HB := Lib.hid (show RBox W.drew (w.heap.size + 1) 0 0 from b0)
  clear h hb b0
  go_still_tail 6, (by kernel_rfl)
  clear o0 o1 a0 a1 a2
  change wpList _ _ _ _ _ W.drew
  generalize W.drew = W2 at *
  go_wp2_with fail
  refine C.mono ?_
  clear C
  rintro e w1 ⟨rfl, d⟩
  obtain ⟨h1, h2⟩ := HX.out w1 d
  have b1 : RBox w1 (w.heap.size + 1) 0 0 := h1.trans HB.out
  have c0 := b1.c0
  have c1 := b1.c1
  have f := b1.f
  have r := b1.set2 3 0
  have r0 := r.c0
  have r1 := r.c1
  have H2 := Lib.hid h2
  clear h1 h2 d b1 r HX
  go_wp2
  exact bodyPost_ret (v := .agg #[.int .u8 3, .int .i32 0]) (by simp [results, Tryz.results160, go_sem, r0, r1]) rfl ⟨rfl, H2.out _ _⟩

set_option maxRecDepth 100000 in
set_option maxHeartbeats 3200000 in
theorem doPopped (y : Int) (h : Stk w F p most (zs ++ [y])) (x : Int) :
    Calls Tryz.prog 160 #[.pointer (some ⟨p, 0, none⟩), .agg #[.int .u8 2, .int .i32 x]] w fun e w' => e = .returned (.agg #[.int .u8 2, .int .i32 y]) ∧ Did F p most zs w w' := by
  go_enter Tryz.func160, Tryz.ntmps160
  go_upto_region 5 with (fail)
  generalize hW : ((w.alloc (.cells #[.int .u8 2, .int .i32 x] 38)).alloc (.cells #[.int .u8 0, .int .i32 0] 74)).alloc (.cells #[.func (.func 169) #[] #[], .func (.func 170) #[] #[], .func (.func 171) #[] #[]] 233) = W
  obtain ⟨o0, o1, b0, hb, a0, a1, a2⟩ := begunDo w _ _ W hW
  clear hW
  have C : Calls Tryz.prog _ _ W.drew fun e w' => e = .returned (.agg #[.int .u8 2, .int .i32 y]) ∧ Did F p most zs W.drew w' := doPopOk y ((h.fresh hb).drew) x
  have HX := Lib.hid (fun w1 (d : Did F p most zs W.drew w1) => d.boxed h.foot hb.drew (by omega) b0.lt)
  have HB := Lib.hid (show RBox W.drew (w.heap.size + 1) 0 0 from b0)
  clear h hb b0
  go_still_tail 6, (by kernel_rfl)
  clear o0 o1 a0 a1 a2
  change wpList _ _ _ _ _ W.drew
  generalize W.drew = W2 at *
  go_wp2_with fail
  refine C.mono ?_
  clear C
  rintro e w1 ⟨rfl, d⟩
  obtain ⟨h1, h2⟩ := HX.out w1 d
  have b1 : RBox w1 (w.heap.size + 1) 0 0 := h1.trans HB.out
  have c0 := b1.c0
  have c1 := b1.c1
  have f := b1.f
  have r := b1.set2 2 y
  have r0 := r.c0
  have r1 := r.c1
  have H2 := Lib.hid h2
  clear h1 h2 d b1 r HX
  go_wp2
  exact bodyPost_ret (v := .agg #[.int .u8 2, .int .i32 y]) (by simp [results, Tryz.results160, go_sem, r0, r1]) rfl ⟨rfl, H2.out _ _⟩

set_option maxRecDepth 100000 in
set_option maxHeartbeats 3200000 in
theorem doNone (h : Stk w F p most []) (x : Int) :
    Calls Tryz.prog 160 #[.pointer (some ⟨p, 0, none⟩), .agg #[.int .u8 2, .int .i32 x]] w fun e w' => e = .returned (.agg #[.int .u8 4, .int .i32 0]) ∧ Did F p most [] w w' := by
  go_enter Tryz.func160, Tryz.ntmps160
  go_upto_region 5 with (fail)
  generalize hW : ((w.alloc (.cells #[.int .u8 2, .int .i32 x] 38)).alloc (.cells #[.int .u8 0, .int .i32 0] 74)).alloc (.cells #[.func (.func 169) #[] #[], .func (.func 170) #[] #[], .func (.func 171) #[] #[]] 233) = W
  obtain ⟨o0, o1, b0, hb, a0, a1, a2⟩ := begunDo w _ _ W hW
  clear hW
  have C : Calls Tryz.prog _ _ W.drew fun e w' => e = .returned (.agg #[.int .u8 4, .int .i32 0]) ∧ Did F p most [] W.drew w' := doPopNone ((h.fresh hb).drew) x
  have HX := Lib.hid (fun w1 (d : Did F p most [] W.drew w1) => d.boxed h.foot hb.drew (by omega) b0.lt)
  have HB := Lib.hid (show RBox W.drew (w.heap.size + 1) 0 0 from b0)
  clear h hb b0
  go_still_tail 6, (by kernel_rfl)
  clear o0 o1 a0 a1 a2
  change wpList _ _ _ _ _ W.drew
  generalize W.drew = W2 at *
  go_wp2_with fail
  refine C.mono ?_
  clear C
  rintro e w1 ⟨rfl, d⟩
  obtain ⟨h1, h2⟩ := HX.out w1 d
  have b1 : RBox w1 (w.heap.size + 1) 0 0 := h1.trans HB.out
  have c0 := b1.c0
  have c1 := b1.c1
  have f := b1.f
  have r := b1.set2 4 0
  have r0 := r.c0
  have r1 := r.c1
  have H2 := Lib.hid h2
  clear h1 h2 d b1 r HX
  go_wp2
  exact bodyPost_ret (v := .agg #[.int .u8 4, .int .i32 0]) (by simp [results, Tryz.results160, go_sem, r0, r1]) rfl ⟨rfl, H2.out _ _⟩

set_option maxRecDepth 100000 in
set_option maxHeartbeats 3200000 in
theorem doBad0 (h : Stk w F p most zs) (x : Int) :
    Calls Tryz.prog 160 #[.pointer (some ⟨p, 0, none⟩), .agg #[.int .u8 0, .int .i32 x]] w fun e w' => e = .returned (.agg #[.int .u8 5, .int .i32 0]) ∧ Did F p most zs w w' := by
  go_enter Tryz.func160, Tryz.ntmps160
  go_upto_region 5 with (fail)
  generalize hW : ((w.alloc (.cells #[.int .u8 0, .int .i32 x] 38)).alloc (.cells #[.int .u8 0, .int .i32 0] 74)).alloc (.cells #[.func (.func 169) #[] #[], .func (.func 170) #[] #[], .func (.func 171) #[] #[]] 233) = W
  obtain ⟨o0, o1, b0, hb, a0, a1, a2⟩ := begunDo w _ _ W hW
  clear hW
  have C : Calls Tryz.prog _ _ W.drew fun e w' => e = .returned (.agg #[.int .u8 5, .int .i32 0]) ∧ Did F p most zs W.drew w' := (refuseAny (some ⟨p, 0, none⟩) x W.drew).mono fun e w' ⟨he, hq⟩ => ⟨he, ((h.fresh hb).drew).did hq⟩
  have HX := Lib.hid (fun w1 (d : Did F p most zs W.drew w1) => d.boxed h.foot hb.drew (by omega) b0.lt)
  have HB := Lib.hid (show RBox W.drew (w.heap.size + 1) 0 0 from b0)
  clear h hb b0
  go_still_tail 6, (by kernel_rfl)
  clear o0 o1 a0 a1 a2
  change wpList _ _ _ _ _ W.drew
  generalize W.drew = W2 at *
  go_wp2_with fail
  refine C.mono ?_
  clear C
  rintro e w1 ⟨rfl, d⟩
  obtain ⟨h1, h2⟩ := HX.out w1 d
  have b1 : RBox w1 (w.heap.size + 1) 0 0 := h1.trans HB.out
  have c0 := b1.c0
  have c1 := b1.c1
  have f := b1.f
  have r := b1.set2 5 0
  have r0 := r.c0
  have r1 := r.c1
  have H2 := Lib.hid h2
  clear h1 h2 d b1 r HX
  go_wp2
  exact bodyPost_ret (v := .agg #[.int .u8 5, .int .i32 0]) (by simp [results, Tryz.results160, go_sem, r0, r1]) rfl ⟨rfl, H2.out _ _⟩

set_option maxRecDepth 100000 in
set_option maxHeartbeats 3200000 in
theorem doBad3 (h : Stk w F p most zs) (k x : Int) (k0 : 3 ≤ k) (k1 : k ≤ 255) :
    Calls Tryz.prog 160 #[.pointer (some ⟨p, 0, none⟩), .agg #[.int .u8 k, .int .i32 x]] w fun e w' => e = .returned (.agg #[.int .u8 5, .int .i32 0]) ∧ Did F p most zs w w' := by
  go_enter Tryz.func160, Tryz.ntmps160
  go_upto_region 5 with (fail)
  generalize hW : ((w.alloc (.cells #[.int .u8 k, .int .i32 x] 38)).alloc (.cells #[.int .u8 0, .int .i32 0] 74)).alloc (.cells #[.func (.func 169) #[] #[], .func (.func 170) #[] #[], .func (.func 171) #[] #[]] 233) = W
  obtain ⟨o0, o1, b0, hb, a0, a1, a2⟩ := begunDo w _ _ W hW
  clear hW
  have C : Calls Tryz.prog _ _ W.drew fun e w' => e = .returned (.agg #[.int .u8 5, .int .i32 0]) ∧ Did F p most zs W.drew w' := (refuseAny (some ⟨p, 0, none⟩) x W.drew).mono fun e w' ⟨he, hq⟩ => ⟨he, ((h.fresh hb).drew).did hq⟩
  have HX := Lib.hid (fun w1 (d : Did F p most zs W.drew w1) => d.boxed h.foot hb.drew (by omega) b0.lt)
  have HB := Lib.hid (show RBox W.drew (w.heap.size + 1) 0 0 from b0)
  clear h hb b0
  go_still_tail 6, (by kernel_rfl)
  clear o0 o1 a0 a1 a2
  change wpList _ _ _ _ _ W.drew
  generalize W.drew = W2 at *
  go_wp2_with fail
  refine C.mono ?_
  clear C
  rintro e w1 ⟨rfl, d⟩
  obtain ⟨h1, h2⟩ := HX.out w1 d
  have b1 : RBox w1 (w.heap.size + 1) 0 0 := h1.trans HB.out
  have c0 := b1.c0
  have c1 := b1.c1
  have f := b1.f
  have r := b1.set2 5 0
  have r0 := r.c0
  have r1 := r.c1
  have H2 := Lib.hid h2
  clear h1 h2 d b1 r HX
  go_wp2
  exact bodyPost_ret (v := .agg #[.int .u8 5, .int .i32 0]) (by simp [results, Tryz.results160, go_sem, r0, r1]) rfl ⟨rfl, H2.out _ _⟩

theorem doAny (h : Stk w F p most zs) (k x : Int) (k0 : 0 ≤ k) (k1 : k ≤ 255) :
    Calls Tryz.prog 160 #[.pointer (some ⟨p, 0, none⟩), .agg #[.int .u8 k, .int .i32 x]] w fun e w' => e = .returned (.agg #[.int .u8 (stkC most zs k), .int .i32 (stkV zs k)]) ∧ Did F p most (stkL most zs k x) w w' := by
  rcases (show k = 0 ∨ k = 1 ∨ k = 2 ∨ 3 ≤ k from by omega) with e | e | e | e
  · subst e
    exact doBad0 h x
  · subst e
    by_cases hf : (zs.length : Int) < most
    · have := doPushed h x hf
      simpa [stkC, stkV, stkL, hf] using this
    · have := doFull h x hf
      simpa [stkC, stkV, stkL, hf] using this
  · subst e
    rcases List.eq_nil_or_concat zs with e | ⟨ys, y, e⟩
    · subst e
      have := doNone h x
      simpa [stkC, stkV, stkL] using this
    · rw [List.concat_eq_append] at e
      subst e
      have := doPopped y h x
      simpa [stkC, stkV, stkL] using this
  · have := doBad3 h k x e k1
    simpa [stkC, stkV, stkL, show ¬ k = 1 by omega, show ¬ k = 2 by omega] using this
end

def Stk1 (w : World) (B p : Nat) (most : Int) (zs : List Int) : Prop := ∃ F, Stk w F p most zs ∧ ∀ g, F g → B ≤ g

section
variable {w w' : World} {F : Nat → Prop} {B p : Nat} {most : Int} {zs : List Int}

theorem items1 (h : Stk1 w B p most zs) : Calls Tryz.prog 153 #[.pointer (some ⟨p, 0, none⟩)] w (Told w zs) := by
  obtain ⟨F, s, _⟩ := h; exact itemsAny s
end

end Go.Proofs.YtikaoikladbdpaaGreat.K9
