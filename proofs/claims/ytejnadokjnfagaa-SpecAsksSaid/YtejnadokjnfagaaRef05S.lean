/-
  What reaperref05.Do tells: as dqL, dqC and dqV say. Conditions: a list of at most a thousand numbers; a kind of 0 to 255.
-/
import Derived.Test.YtejnadokjnfagaaRef04S
namespace Go.Proofs.Ytejnadokjnfagaa
open Go.RowKit

/-- A list but for its first number. -/
theorem reads_tail {w : World} {b off n : Nat} {ys : List Int} {z : Int} (h : Reads .i32 w (some ⟨b, off, none⟩) (n + 1) (z :: ys)) : Reads .i32 w (some ⟨b, off + 1, none⟩) n ys := by
  have hl : ys.length = n := by have := h.1; simpa using this
  refine ⟨hl, fun hp => ?_⟩
  obtain ⟨b', off', e, bl, hc⟩ := h.2 (by omega)
  simp only [Option.some.injEq, Addr.mk.injEq, and_true] at e
  obtain ⟨rfl, rfl⟩ := e
  refine ⟨b, off + 1, rfl, bl, fun i hi => ?_⟩
  rw [show off + 1 + i = off + (i + 1) by omega, hc (i + 1) (by omega)]
  simp [List.getD]
theorem reads_some {w : World} {ao : Option Addr} {n : Nat} {zs : List Int} (h : Reads .i32 w ao (n + 1) zs) : ∃ b off, ao = some ⟨b, off, none⟩ := by
  obtain ⟨b, off, e, _⟩ := h.2 (by omega)
  exact ⟨b, off, e⟩

section
variable {w W w1 : World} {ao : Option Addr} {n cap : Nat} {zs : List Int}

/-- What stands behind an append of one to nothing. -/
theorem appendedA {v : Value} {Z : List Value} {o : Obj} (b0 : RBox W (w.heap.size + 1) 0 0) (q : w1.ownsRow W.heap.size 21 1 v (0 + 1) ([] ++ Z)) (g : (W.alloc o).grownBy w1 (Value.ownBlock (.slice none 0 0))) :
    RBox w1 (w.heap.size + 1) 0 0 ∧ Below W.heap.size W w1 ∧ w1.ownsRow W.heap.size 21 1 v 1 Z := by
  have hb : Below W.heap.size W w1 := ((Below.refl _ W).alloc (Nat.le_refl _) o).grown g (by simp) (by simp [Value.ownBlock])
  rw [Nat.zero_add, List.nil_append] at q
  exact ⟨(hb.block _ b0.lt).trans b0, hb, q⟩
/-- And behind a list that follows it. -/
theorem appendedB {v : Value} {m : Nat} {Z : List Value} {w2 : World} (b0 : RBox w1 (w.heap.size + 1) 0 0) (hs : W.heap.size = w.heap.size + 1 + 1) (hb : Below W.heap.size W w1) (q : w1.ownsRow W.heap.size 21 1 v m Z) (g : w1.grownBy w2 v.ownBlock) :
    RBox w2 (w.heap.size + 1) 0 0 ∧ Below W.heap.size W w2 := by
  have hb2 : Below W.heap.size w1 w2 := (Below.refl _ w1).grown g hb.size (fun k e => (q.lt k e).1)
  exact ⟨(hb2.block _ (by omega)).trans b0, hb.trans hb2⟩

set_option maxHeartbeats 3200000 in
theorem ref5Full1 (most x : Int) (hr : Reads .i32 w ao n zs) (hc : n ≤ cap) (_ : n ≤ 1000) (hf : mostOf most ≤ n) :
    Calls Try.prog 28 #[.int .i64 most, .slice ao n cap, .agg #[.int .u8 1, .int .i32 x]] w (RefTold w ao zs zs 3 0) := by
  have HR := Lib.hid hr
  clear hr
  go_enter Try.func28, Try.ntmps28
  go_upto_region 1 with (fail)
  generalize hW : (w.alloc (.cells #[.int .u8 1, .int .i32 x] 36)).alloc (.cells #[.int .u8 0, .int .i32 0] 32) = W
  obtain ⟨o0, o1, b0, hb, hs⟩ := begunRef w _ _ W hW
  have c0 := b0.c0
  have c1 := b0.c1
  have f := b0.f
  have HB := Lib.hid hb
  have HS := Lib.hid hs
  have HX := Lib.hid b0
  clear hW hb hs b0
  have r := HX.out.set2 3 0
  have r0 := r.c0
  have r1 := r.c1
  clear r
  have M := refMost most W
  go_wp2_with (go_at_call 40; refine M.mono ?_; rintro e w' ⟨rfl, rfl⟩)
  exact bodyPost_ret (v := .tuple #[.slice ao n cap, .agg #[.int .u8 3, .int .i32 0]]) (by simp [results, Try.results28, go_sem, r0, r1]) rfl (told_old HR.out hc HB.out)

set_option maxHeartbeats 3200000 in
theorem ref5Full2 (most x : Int) (hr : Reads .i32 w ao n zs) (hc : n ≤ cap) (_ : n ≤ 1000) (hf : mostOf most ≤ n) :
    Calls Try.prog 28 #[.int .i64 most, .slice ao n cap, .agg #[.int .u8 2, .int .i32 x]] w (RefTold w ao zs zs 3 0) := by
  have HR := Lib.hid hr
  clear hr
  go_enter Try.func28, Try.ntmps28
  go_upto_region 1 with (fail)
  generalize hW : (w.alloc (.cells #[.int .u8 2, .int .i32 x] 36)).alloc (.cells #[.int .u8 0, .int .i32 0] 32) = W
  obtain ⟨o0, o1, b0, hb, hs⟩ := begunRef w _ _ W hW
  have c0 := b0.c0
  have c1 := b0.c1
  have f := b0.f
  have HB := Lib.hid hb
  have HS := Lib.hid hs
  have HX := Lib.hid b0
  clear hW hb hs b0
  have r := HX.out.set2 3 0
  have r0 := r.c0
  have r1 := r.c1
  clear r
  have M := refMost most W
  go_wp2_with (go_at_call 40; refine M.mono ?_; rintro e w' ⟨rfl, rfl⟩)
  exact bodyPost_ret (v := .tuple #[.slice ao n cap, .agg #[.int .u8 3, .int .i32 0]]) (by simp [results, Try.results28, go_sem, r0, r1]) rfl (told_old HR.out hc HB.out)

set_option maxHeartbeats 3200000 in
theorem ref5None3 (most x : Int) (hr : Reads .i32 w ao n zs) (hc : n ≤ cap) (h0 : n = 0) :
    Calls Try.prog 28 #[.int .i64 most, .slice ao n cap, .agg #[.int .u8 3, .int .i32 x]] w (RefTold w ao zs zs 4 0) := by
  have HR := Lib.hid hr
  clear hr
  have h1 : ¬ 0 < n := by omega
  subst h0
  clear h1
  go_enter Try.func28, Try.ntmps28
  go_upto_region 1 with (fail)
  generalize hW : (w.alloc (.cells #[.int .u8 3, .int .i32 x] 36)).alloc (.cells #[.int .u8 0, .int .i32 0] 32) = W
  obtain ⟨o0, o1, b0, hb, hs⟩ := begunRef w _ _ W hW
  have c0 := b0.c0
  have c1 := b0.c1
  have f := b0.f
  have HB := Lib.hid hb
  have HS := Lib.hid hs
  have HX := Lib.hid b0
  clear hW hb hs b0
  have r := HX.out.set2 4 0
  have r0 := r.c0
  have r1 := r.c1
  clear r
  have M := refMost most W
  go_wp2_with (go_at_call 40; refine M.mono ?_; rintro e w' ⟨rfl, rfl⟩)
  exact bodyPost_ret (v := .tuple #[.slice ao 0 cap, .agg #[.int .u8 4, .int .i32 0]]) (by simp [results, Try.results28, go_sem, r0, r1]) rfl (told_old HR.out hc HB.out)

set_option maxHeartbeats 3200000 in
theorem ref5None4 (most x : Int) (hr : Reads .i32 w ao n zs) (hc : n ≤ cap) (h0 : n = 0) :
    Calls Try.prog 28 #[.int .i64 most, .slice ao n cap, .agg #[.int .u8 4, .int .i32 x]] w (RefTold w ao zs zs 4 0) := by
  have HR := Lib.hid hr
  clear hr
  have h1 : ¬ 0 < n := by omega
  subst h0
  clear h1
  go_enter Try.func28, Try.ntmps28
  go_upto_region 1 with (fail)
  generalize hW : (w.alloc (.cells #[.int .u8 4, .int .i32 x] 36)).alloc (.cells #[.int .u8 0, .int .i32 0] 32) = W
  obtain ⟨o0, o1, b0, hb, hs⟩ := begunRef w _ _ W hW
  have c0 := b0.c0
  have c1 := b0.c1
  have f := b0.f
  have HB := Lib.hid hb
  have HS := Lib.hid hs
  have HX := Lib.hid b0
  clear hW hb hs b0
  have r := HX.out.set2 4 0
  have r0 := r.c0
  have r1 := r.c1
  clear r
  have M := refMost most W
  go_wp2_with (go_at_call 40; refine M.mono ?_; rintro e w' ⟨rfl, rfl⟩)
  exact bodyPost_ret (v := .tuple #[.slice ao 0 cap, .agg #[.int .u8 4, .int .i32 0]]) (by simp [results, Try.results28, go_sem, r0, r1]) rfl (told_old HR.out hc HB.out)

set_option maxHeartbeats 3200000 in
theorem ref5Bad0 (most x : Int) (hr : Reads .i32 w ao n zs) (hc : n ≤ cap) (_ : n ≤ 1000) :
    Calls Try.prog 28 #[.int .i64 most, .slice ao n cap, .agg #[.int .u8 0, .int .i32 x]] w (RefTold w ao zs zs 5 0) := by
  have HR := Lib.hid hr
  clear hr
  go_enter Try.func28, Try.ntmps28
  go_upto_region 1 with (fail)
  generalize hW : (w.alloc (.cells #[.int .u8 0, .int .i32 x] 36)).alloc (.cells #[.int .u8 0, .int .i32 0] 32) = W
  obtain ⟨o0, o1, b0, hb, hs⟩ := begunRef w _ _ W hW
  have c0 := b0.c0
  have c1 := b0.c1
  have f := b0.f
  have HB := Lib.hid hb
  have HS := Lib.hid hs
  have HX := Lib.hid b0
  clear hW hb hs b0
  have r := HX.out.set2 5 0
  have r0 := r.c0
  have r1 := r.c1
  clear r
  have M := refMost most W
  go_wp2_with (go_at_call 40; refine M.mono ?_; rintro e w' ⟨rfl, rfl⟩)
  exact bodyPost_ret (v := .tuple #[.slice ao n cap, .agg #[.int .u8 5, .int .i32 0]]) (by simp [results, Try.results28, go_sem, r0, r1]) rfl (told_old HR.out hc HB.out)

set_option maxHeartbeats 3200000 in
theorem ref5Bad5 (most x : Int) (hr : Reads .i32 w ao n zs) (hc : n ≤ cap) (_ : n ≤ 1000) (k : Int) (k5 : 4 < k) :
    Calls Try.prog 28 #[.int .i64 most, .slice ao n cap, .agg #[.int .u8 k, .int .i32 x]] w (RefTold w ao zs zs 5 0) := by
  have HR := Lib.hid hr
  clear hr
  have k1 : ¬ k < 1 := by omega
  go_enter Try.func28, Try.ntmps28
  go_upto_region 1 with (fail)
  generalize hW : (w.alloc (.cells #[.int .u8 k, .int .i32 x] 36)).alloc (.cells #[.int .u8 0, .int .i32 0] 32) = W
  obtain ⟨o0, o1, b0, hb, hs⟩ := begunRef w _ _ W hW
  have c0 := b0.c0
  have c1 := b0.c1
  have f := b0.f
  have HB := Lib.hid hb
  have HS := Lib.hid hs
  have HX := Lib.hid b0
  clear hW hb hs b0
  have r := HX.out.set2 5 0
  have r0 := r.c0
  have r1 := r.c1
  clear r
  have M := refMost most W
  go_wp2_with (go_at_call 40; refine M.mono ?_; rintro e w' ⟨rfl, rfl⟩)
  exact bodyPost_ret (v := .tuple #[.slice ao n cap, .agg #[.int .u8 5, .int .i32 0]]) (by simp [results, Try.results28, go_sem, r0, r1]) rfl (told_old HR.out hc HB.out)

set_option maxHeartbeats 3200000 in
theorem ref5PushL (most x : Int) (hr : Reads .i32 w ao n zs) (_ : n ≤ cap) (hn : n ≤ 1000) (hf : (n : Int) < mostOf most) :
    Calls Try.prog 28 #[.int .i64 most, .slice ao n cap, .agg #[.int .u8 1, .int .i32 x]] w (RefTold w ao zs (x :: zs) 1 0) := by
  obtain ⟨i0, hi, hz0, hz1, hz2⟩ := info_parts infoI32
  have HR := Lib.hid hr
  have HL := Lib.hid hr.1
  clear hr
  go_enter Try.func28, Try.ntmps28
  go_upto_region 1 with (fail)
  generalize hW : (w.alloc (.cells #[.int .u8 1, .int .i32 x] 36)).alloc (.cells #[.int .u8 0, .int .i32 0] 32) = W
  obtain ⟨o0, o1, b0, hb, hs⟩ := begunRef w _ _ W hW
  have c0 := b0.c0
  have c1 := b0.c1
  have f := b0.f
  have HB := Lib.hid hb
  have HS := Lib.hid hs
  have HX := Lib.hid b0
  clear hW hb hs b0
  clear c0 c1 f
  have M := refMost most W
  go_upto_region 10 with (go_at_call 40; refine M.mono ?_; rintro e w' ⟨rfl, rfl⟩)
  clear M
  go_wp2_with (first | (at_builtin; refine wpList_append_own _ rfl (.tmp 50) (.tmp 53) 22 rfl W.heap.size 21 i0 _ 1 4 Try.underlying22 hi hz0 hz1 hz2 rfl (by decide) (.slice none 0 0) 0 [] rfl (World.ownsRow_nil _ _ _ _) ⟨_, 0, none⟩ 1 1 [.int .i32 x] rfl rfl (by intro j u hu; cases j <;> simp at hu; subst hu; go_simp) (by intro u hu; simp at hu; subst hu; rfl) (by simp only [maxLen]; omega) (by omega) (by simp) ?_; intro v1 w1 q1 g1 _; obtain ⟨e2, e3, e4⟩ := appendedA HX.out q1 g1; obtain ⟨a1, cp1, rfl⟩ := ownShape e4; have HO1 := Lib.hid e4; have HX1 := Lib.hid e2; have HB1 := Lib.hid e3; clear q1 g1 e2 e3 e4 o0 o1) | (at_builtin; refine wpList_append_src _ rfl (.tmp 55) (.tmp 56) 22 rfl W.heap.size 21 i0 _ 1 4 Try.underlying22 hi hz0 hz1 hz2 rfl (by decide) _ 1 [.int .i32 x] rfl HO1.out ao n cap (zs.map (Value.int .i32)) rfl (by simp [HR.out.1]) (reads_src ((HR.out.keep HB.out).keep HB1.out)) (ints_oneCell _ _) (by simp only [maxLen]; omega) (by omega) HB1.out.size ?_; intro v2 w2 q2 g2; obtain ⟨e2, e3⟩ := appendedB HX1.out HS.out HB1.out HO1.out g2; obtain ⟨a2, cp2, rfl⟩ := ownShape q2; have HO2 := Lib.hid q2; have HX2 := Lib.hid e2; have HB2 := Lib.hid e3; have c0 := e2.c0; have c1 := e2.c1; have f := e2.f; clear q2 g2 e2 e3))
  have r := HX2.out.set2 1 0
  have r0 := r.c0
  have r1 := r.c1
  exact bodyPost_ret (v := .tuple #[.slice a2 (1 + n) cp2, .agg #[.int .u8 1, .int .i32 0]]) (by simp [results, Try.results28, go_sem, r0, r1]) rfl (told_new (ys := x :: zs) (by simpa [HL.out, Nat.add_comm] using HO2.out) HS.out HB.out HB2.out)

set_option maxHeartbeats 3200000 in
theorem ref5PushR (most x : Int) (hr : Reads .i32 w ao n zs) (_ : n ≤ cap) (hn : n ≤ 1000) (hf : (n : Int) < mostOf most) :
    Calls Try.prog 28 #[.int .i64 most, .slice ao n cap, .agg #[.int .u8 2, .int .i32 x]] w (RefTold w ao zs (zs ++ [x]) 1 0) := by
  obtain ⟨i0, hi, hz0, hz1, hz2⟩ := info_parts infoI32
  have HR := Lib.hid hr
  have HL := Lib.hid hr.1
  clear hr
  go_enter Try.func28, Try.ntmps28
  go_upto_region 1 with (fail)
  generalize hW : (w.alloc (.cells #[.int .u8 2, .int .i32 x] 36)).alloc (.cells #[.int .u8 0, .int .i32 0] 32) = W
  obtain ⟨o0, o1, b0, hb, hs⟩ := begunRef w _ _ W hW
  have c0 := b0.c0
  have c1 := b0.c1
  have f := b0.f
  have HB := Lib.hid hb
  have HS := Lib.hid hs
  have HX := Lib.hid b0
  clear hW hb hs b0
  clear c0 c1 f
  have M := refMost most W
  go_upto_region 14 with (go_at_call 40; refine M.mono ?_; rintro e w' ⟨rfl, rfl⟩)
  clear M
  go_wp2_with (first | (at_builtin; refine wpList_append_src _ rfl (.tmp 64) (.tmp 65) 22 rfl W.heap.size 21 i0 _ 1 4 Try.underlying22 hi hz0 hz1 hz2 rfl (by decide) (.slice none 0 0) 0 [] rfl (World.ownsRow_nil _ _ _ _) ao n cap (zs.map (Value.int .i32)) rfl (by simp [HR.out.1]) (reads_src (HR.out.keep HB.out)) (ints_oneCell _ _) (by simp only [maxLen]; omega) (by omega) (Nat.le_refl _) ?_; intro v1 w1 q1 g1; obtain ⟨e1, e2, e3, e4⟩ := appended1 HX.out o1 HS.out q1 g1; obtain ⟨a1, cp1, rfl⟩ := ownShape e4; have HO1 := Lib.hid e4; have HX1 := Lib.hid e2; have HB1 := Lib.hid e3; clear q1 g1 e2 e3 e4 o0 o1) | (at_builtin; refine wpList_append_own _ rfl (.tmp 67) (.tmp 70) 22 rfl W.heap.size 21 i0 _ 1 4 Try.underlying22 hi hz0 hz1 hz2 rfl (by decide) _ _ _ rfl (HO1.out.alloc _) ⟨_, 0, none⟩ 1 1 [.int .i32 x] rfl rfl (by intro j u hu; cases j <;> simp at hu; subst hu; go_simp) (by intro u hu; simp at hu; subst hu; rfl) (by simp only [maxLen]; omega) (by omega) (Nat.le_trans HB1.out.size (by simp)) ?_; intro v2 w2 q2 g2 _; obtain ⟨e2, e3⟩ := appended2 HX1.out HS.out HB1.out HO1.out g2; obtain ⟨a2, cp2, rfl⟩ := ownShape q2; have HO2 := Lib.hid q2; have HX2 := Lib.hid e2; have HB2 := Lib.hid e3; have c0 := e2.c0; have c1 := e2.c1; have f := e2.f; clear q2 g2 e2 e3 e1))
  have r := HX2.out.set2 1 0
  have r0 := r.c0
  have r1 := r.c1
  exact bodyPost_ret (v := .tuple #[.slice a2 (n + 1) cp2, .agg #[.int .u8 1, .int .i32 0]]) (by simp [results, Try.results28, go_sem, r0, r1]) rfl (told_new (ys := zs ++ [x]) (by simpa [HL.out] using HO2.out) HS.out HB.out HB2.out)

set_option maxHeartbeats 3200000 in
theorem ref5PopL (most x y : Int) (hr : Reads .i32 w ao (n + 1) (y :: zs)) (hc : n + 1 ≤ cap) (h1 : ¬ cap = 1) (hn : n ≤ 1000) :
    Calls Try.prog 28 #[.int .i64 most, .slice ao (n + 1) cap, .agg #[.int .u8 3, .int .i32 x]] w (RefTold w ao (y :: zs) zs 2 y) := by
  obtain ⟨i0, hi, hz0, hz1, hz2⟩ := info_parts infoI32
  obtain ⟨b, off, rfl⟩ := reads_some hr
  have HL := Lib.hid (show zs.length = n by have := hr.1; simpa using this)
  have HR := Lib.hid (reads_tail hr)
  obtain ⟨b', off', e, bl, hcs⟩ := hr.2 (by omega)
  simp only [Option.some.injEq, Addr.mk.injEq, and_true] at e
  obtain ⟨rfl, rfl⟩ := e
  have cy : w.cell? ⟨b, off, none⟩ = some (.int .i32 y) := hcs 0 (by omega)
  clear hr hcs
  have i1 : 1 ≤ cap := by omega
  have i2 : (1 : Int) ≤ cap := by omega
  go_enter Try.func28, Try.ntmps28
  go_upto_region 1 with (fail)
  generalize hW : (w.alloc (.cells #[.int .u8 3, .int .i32 x] 36)).alloc (.cells #[.int .u8 0, .int .i32 0] 32) = W
  obtain ⟨o0, o1, b0, hb, hs⟩ := begunRef w _ _ W hW
  have c0 := b0.c0
  have c1 := b0.c1
  have f := b0.f
  have HB := Lib.hid hb
  have HS := Lib.hid hs
  have HX := Lib.hid b0
  clear hW hb hs b0
  clear c0 c1 f
  have HCY := Lib.hid (And.intro bl cy)
  have M := refMost most W
  clear cy
  go_upto_region 19 with (first | (go_at_call 40; refine M.mono ?_; rintro e w' ⟨rfl, rfl⟩) | (at_builtin; refine wpList_append_src _ rfl (.tmp 78) (.tmp 80) 22 rfl W.heap.size 21 i0 _ 1 4 Try.underlying22 hi hz0 hz1 hz2 rfl (by decide) (.slice none 0 0) 0 [] rfl (World.ownsRow_nil _ _ _ _) (some ⟨b, off + 1, none⟩) n (cap - 1) (zs.map (Value.int .i32)) rfl (by simp [HL.out]) (reads_src (HR.out.keep HB.out)) (ints_oneCell _ _) (by simp only [maxLen]; omega) (by omega) (Nat.le_refl _) ?_; intro v1 w1 q1 g1; obtain ⟨e1, e2, e3, e4⟩ := appended1 HX.out o1 HS.out q1 g1; obtain ⟨a1, cp1, rfl⟩ := ownShape e4; have HO1 := Lib.hid e4; have HX1 := Lib.hid e2; have HB1 := Lib.hid e3; have HC1 := Lib.hid (((HB.out.trans (e3.mono HB.out.size)).cell (p := ⟨b, off, none⟩) HCY.out.1).trans HCY.out.2); clear q1 g1 e1 e2 e3 e4 o0 o1))
  have cy := HC1.out
  go_still_tail 6, (by kernel_rfl)
  clear cy
  have HO2 := Lib.hid HO1.out.drew
  have HX2 := Lib.hid (show RBox w1.drew (w.heap.size + 1) 0 0 from HX1.out)
  have HB2 := Lib.hid HB1.out.drew
  clear HO1 HX1 HB1 HC1
  change wpList _ _ _ _ _ w1.drew
  generalize w1.drew = w2 at *
  have c0 := HX2.out.c0
  have c1 := HX2.out.c1
  have f := HX2.out.f
  have r := HX2.out.set2 2 y
  have r0 := r.c0
  have r1 := r.c1
  clear r
  go_wp2
  exact bodyPost_ret (v := .tuple #[.slice a1 n cp1, .agg #[.int .u8 2, .int .i32 y]]) (by simp [results, Try.results28, go_sem, r0, r1]) rfl (told_new (ys := zs) (by simpa [HL.out] using HO2.out) HS.out HB.out HB2.out)

set_option maxHeartbeats 3200000 in
theorem ref5PopR (most x y : Int) (hr : Reads .i32 w ao (n + 1) (zs ++ [y])) (hc : n + 1 ≤ cap) (hn : n ≤ 1000) :
    Calls Try.prog 28 #[.int .i64 most, .slice ao (n + 1) cap, .agg #[.int .u8 4, .int .i32 x]] w (RefTold w ao (zs ++ [y]) zs 2 y) := by
  obtain ⟨i0, hi, hz0, hz1, hz2⟩ := info_parts infoI32
  have HL := Lib.hid (show zs.length = n by have := hr.1; simpa using this)
  obtain ⟨b, off, rfl⟩ := reads_some hr
  have HR := Lib.hid (reads_front hr)
  obtain ⟨b', off', e, bl, hcs⟩ := hr.2 (by omega)
  simp only [Option.some.injEq, Addr.mk.injEq, and_true] at e
  obtain ⟨rfl, rfl⟩ := e
  have cy := hcs n (by omega)
  rw [show (zs ++ [y]).getD n 0 = y by rw [← HL.out]; simp [List.getD]] at cy
  clear hr hcs
  have e1 : IntKind.i64.wrap (((n + 1 : Nat) : Int) - 1) = (n : Int) := by rw [IntKind.wrap_i64]; omega
  have e2 : ((n + 1 : Nat) : Int) - 1 = (n : Int) := by omega
  clear e1 e2
  go_enter Try.func28, Try.ntmps28
  go_upto_region 1 with (fail)
  generalize hW : (w.alloc (.cells #[.int .u8 4, .int .i32 x] 36)).alloc (.cells #[.int .u8 0, .int .i32 0] 32) = W
  obtain ⟨o0, o1, b0, hb, hs⟩ := begunRef w _ _ W hW
  have c0 := b0.c0
  have c1 := b0.c1
  have f := b0.f
  have HB := Lib.hid hb
  have HS := Lib.hid hs
  have HX := Lib.hid b0
  clear hW hb hs b0
  clear c0 c1 f
  have HCY := Lib.hid (And.intro bl cy)
  have M := refMost most W
  clear cy
  go_upto_region 21 with (first | (go_at_call 40; refine M.mono ?_; rintro e w' ⟨rfl, rfl⟩) | (at_builtin; refine wpList_append_src _ rfl (.tmp 87) (.tmp 92) 22 rfl W.heap.size 21 i0 _ 1 4 Try.underlying22 hi hz0 hz1 hz2 rfl (by decide) (.slice none 0 0) 0 [] rfl (World.ownsRow_nil _ _ _ _) (some ⟨b, off, none⟩) n cap (zs.map (Value.int .i32)) rfl (by simp [HL.out]) (reads_src (HR.out.keep HB.out)) (ints_oneCell _ _) (by simp only [maxLen]; omega) (by omega) (Nat.le_refl _) ?_; intro v1 w1 q1 g1; obtain ⟨e1, e2, e3, e4⟩ := appended1 HX.out o1 HS.out q1 g1; obtain ⟨a1, cp1, rfl⟩ := ownShape e4; have HO1 := Lib.hid e4; have HX1 := Lib.hid e2; have HB1 := Lib.hid e3; have HC1 := Lib.hid (((HB.out.trans (e3.mono HB.out.size)).cell (p := ⟨b, off + n, none⟩) HCY.out.1).trans HCY.out.2); clear q1 g1 e1 e2 e3 e4 o0 o1))
  have cy := HC1.out
  have e1 : IntKind.i64.wrap ((n : Int) + 1 - 1) = n := by rw [IntKind.wrap_i64]; omega
  have e2 : IntKind.i64.wrap (n : Int) = n := by rw [IntKind.wrap_i64]; omega
  have l1 : (n : Int) < (n : Int) + 1 := by omega
  go_still_tail 9, (by kernel_rfl)
  clear cy
  have HO2 := Lib.hid HO1.out.drew
  have HX2 := Lib.hid (show RBox w1.drew (w.heap.size + 1) 0 0 from HX1.out)
  have HB2 := Lib.hid HB1.out.drew
  clear HO1 HX1 HB1 HC1
  change wpList _ _ _ _ _ w1.drew
  generalize w1.drew = w2 at *
  have c0 := HX2.out.c0
  have c1 := HX2.out.c1
  have f := HX2.out.f
  have r := HX2.out.set2 2 y
  have r0 := r.c0
  have r1 := r.c1
  clear r
  go_wp2
  exact bodyPost_ret (v := .tuple #[.slice a1 n cp1, .agg #[.int .u8 2, .int .i32 y]]) (by simp [results, Try.results28, go_sem, r0, r1]) rfl (told_new (ys := zs) (by simpa [HL.out] using HO2.out) HS.out HB.out HB2.out)

set_option maxHeartbeats 3200000 in
theorem ref5PopL1 (most x y : Int) (hr : Reads .i32 w ao (n + 1) (y :: zs)) (hc : n + 1 ≤ cap) (h1 : cap = 1) (hn : n ≤ 1000) :
    Calls Try.prog 28 #[.int .i64 most, .slice ao (n + 1) cap, .agg #[.int .u8 3, .int .i32 x]] w (RefTold w ao (y :: zs) zs 2 y) := by
  obtain ⟨i0, hi, hz0, hz1, hz2⟩ := info_parts infoI32
  obtain ⟨b, off, rfl⟩ := reads_some hr
  have HL := Lib.hid (show zs.length = 0 by have := hr.1; simp at this; omega)
  have HR := Lib.hid (show Reads .i32 w (some ⟨b, off, none⟩) 0 zs from ⟨HL.out, fun h => absurd h (Nat.lt_irrefl _)⟩)
  obtain ⟨b', off', e, bl, hcs⟩ := hr.2 (by omega)
  simp only [Option.some.injEq, Addr.mk.injEq, and_true] at e
  obtain ⟨rfl, rfl⟩ := e
  have cy : w.cell? ⟨b, off, none⟩ = some (.int .i32 y) := hcs 0 (by omega)
  clear hr hcs
  obtain rfl : n = 0 := by omega
  subst h1
  clear hn hc
  go_enter Try.func28, Try.ntmps28
  go_upto_region 1 with (fail)
  generalize hW : (w.alloc (.cells #[.int .u8 3, .int .i32 x] 36)).alloc (.cells #[.int .u8 0, .int .i32 0] 32) = W
  obtain ⟨o0, o1, b0, hb, hs⟩ := begunRef w _ _ W hW
  have c0 := b0.c0
  have c1 := b0.c1
  have f := b0.f
  have HB := Lib.hid hb
  have HS := Lib.hid hs
  have HX := Lib.hid b0
  clear hW hb hs b0
  clear c0 c1 f
  have HCY := Lib.hid (And.intro bl cy)
  have M := refMost most W
  clear cy
  go_upto_region 19 with (first | (go_at_call 40; refine M.mono ?_; rintro e w' ⟨rfl, rfl⟩) | (at_builtin; refine wpList_append_src _ rfl (.tmp 78) (.tmp 80) 22 rfl W.heap.size 21 i0 _ 1 4 Try.underlying22 hi hz0 hz1 hz2 rfl (by decide) (.slice none 0 0) 0 [] rfl (World.ownsRow_nil _ _ _ _) (some ⟨b, off, none⟩) 0 0 (zs.map (Value.int .i32)) rfl (by simp [HL.out]) (reads_src (HR.out.keep HB.out)) (ints_oneCell _ _) (by simp only [maxLen]; omega) (by omega) (Nat.le_refl _) ?_; intro v1 w1 q1 g1; obtain ⟨e1, e2, e3, e4⟩ := appended1 HX.out o1 HS.out q1 g1; obtain ⟨a1, cp1, rfl⟩ := ownShape e4; have HO1 := Lib.hid e4; have HX1 := Lib.hid e2; have HB1 := Lib.hid e3; have HC1 := Lib.hid (((HB.out.trans (e3.mono HB.out.size)).cell (p := ⟨b, off, none⟩) HCY.out.1).trans HCY.out.2); clear q1 g1 e1 e2 e3 e4 o0 o1))
  have cy := HC1.out
  go_still_tail 6, (by kernel_rfl)
  clear cy
  have HO2 := Lib.hid HO1.out.drew
  have HX2 := Lib.hid (show RBox w1.drew (w.heap.size + 1) 0 0 from HX1.out)
  have HB2 := Lib.hid HB1.out.drew
  clear HO1 HX1 HB1 HC1
  change wpList _ _ _ _ _ w1.drew
  generalize w1.drew = w2 at *
  have c0 := HX2.out.c0
  have c1 := HX2.out.c1
  have f := HX2.out.f
  have r := HX2.out.set2 2 y
  have r0 := r.c0
  have r1 := r.c1
  clear r
  go_wp2
  exact bodyPost_ret (v := .tuple #[.slice a1 0 cp1, .agg #[.int .u8 2, .int .i32 y]]) (by simp [results, Try.results28, go_sem, r0, r1]) rfl (told_new (ys := zs) (by simpa [HL.out] using HO2.out) HS.out HB.out HB2.out)

/-- Whatever the operation is. -/
theorem ref5Do (most k x : Int) (hr : Reads .i32 w ao n zs) (hc : n ≤ cap) (hn : n ≤ 1000) (k0 : 0 ≤ k) :
    Calls Try.prog 28 #[.int .i64 most, .slice ao n cap, .agg #[.int .u8 k, .int .i32 x]] w (RefTold w ao zs (dqL (mostOf most) zs k x) (dqC (mostOf most) zs k) (dqV zs k)) := by
  have hl := hr.1
  by_cases e1 : k = 1
  · subst e1
    by_cases hf : (n : Int) < mostOf most
    · have := ref5PushL most x hr hc hn hf
      simpa [dqC, dqV, dqL, hl, hf] using this
    · have := ref5Full1 most x hr hc hn (by omega)
      simpa [dqC, dqV, dqL, hl, hf] using this
  by_cases e2 : k = 2
  · subst e2
    by_cases hf : (n : Int) < mostOf most
    · have := ref5PushR most x hr hc hn hf
      simpa [dqC, dqV, dqL, hl, hf] using this
    · have := ref5Full2 most x hr hc hn (by omega)
      simpa [dqC, dqV, dqL, hl, hf] using this
  by_cases e3 : k = 3
  · subst e3
    cases zs with
    | nil =>
      have := ref5None3 most x hr hc (by simpa using hl.symm)
      simpa [dqC, dqV, dqL] using this
    | cons y ys =>
      obtain ⟨m, rfl⟩ : ∃ m, n = m + 1 := ⟨n - 1, by simp at hl; omega⟩
      by_cases h1 : cap = 1
      · have := ref5PopL1 most x y hr hc h1 (by omega)
        simpa [dqC, dqV, dqL] using this
      · have := ref5PopL most x y hr hc h1 (by omega)
        simpa [dqC, dqV, dqL] using this
  by_cases e4 : k = 4
  · subst e4
    rcases List.eq_nil_or_concat zs with e | ⟨ys, y, e⟩
    · subst e
      have := ref5None4 most x hr hc (by simpa using hl.symm)
      simpa [dqC, dqV, dqL] using this
    · rw [List.concat_eq_append] at e
      subst e
      obtain ⟨m, rfl⟩ : ∃ m, n = m + 1 := ⟨n - 1, by simp at hl; omega⟩
      have := ref5PopR most x y hr hc (by omega)
      simpa [dqC, dqV, dqL] using this
  by_cases e0 : k = 0
  · subst e0
    have := ref5Bad0 most x hr hc hn
    simpa [dqC, dqV, dqL] using this
  · have := ref5Bad5 most x hr hc hn k (by omega)
    simpa [dqC, dqV, dqL, e1, e2, e3, e4] using this
end

end Go.Proofs.Ytejnadokjnfagaa
