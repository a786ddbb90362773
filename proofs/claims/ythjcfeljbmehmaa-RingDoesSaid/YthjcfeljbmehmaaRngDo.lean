/-
  What Do of package ring does, at every deque and at nil: what an operation is told, and what becomes of the items. Conditions: a deque as Rng says; a kind of 0 to 255.
-/
import Derived.Test.YthjcfeljbmehmaaRngCopy
namespace Go.Proofs.Ythjcfeljbmehmaa
open Go.RowKit

/-- What an operation makes of the items. -/
def dqL (most : Int) (zs : List Int) (k x : Int) : List Int :=
  if k = 1 then (if (zs.length : Int) < most then x :: zs else zs) else if k = 2 then (if (zs.length : Int) < most then zs ++ [x] else zs) else if k = 3 then zs.tail else if k = 4 then zs.dropLast else zs
/-- What it is told: a code. -/
def dqC (most : Int) (zs : List Int) (k : Int) : Int :=
  if k = 1 ∨ k = 2 then (if (zs.length : Int) < most then 1 else 3) else if k = 3 ∨ k = 4 then (if zs = [] then 4 else 2) else 5
/-- What it is told: a value. -/
def dqV (zs : List Int) (k : Int) : Int := if k = 3 then zs.headD 0 else if k = 4 then zs.getLastD 0 else 0

theorem putTrue (w : World) : Calls Try.prog 29 #[.bool true] w fun e w' => e = .returned (.agg #[.int .u8 1, .int .i32 0]) ∧ Below w.heap.size w w' := by
  go_enter Try.func29, Try.ntmps29
  go_wp2
  exact bodyPost_ret (v := .agg #[.int .u8 1, .int .i32 0]) (by simp [results, Try.results29, go_sem]) rfl ⟨rfl, by exact (Below.refl _ _).alloc (Nat.le_refl _) _⟩
theorem putFalse (w : World) : Calls Try.prog 29 #[.bool false] w fun e w' => e = .returned (.agg #[.int .u8 3, .int .i32 0]) ∧ Below w.heap.size w w' := by
  go_enter Try.func29, Try.ntmps29
  go_wp2
  exact bodyPost_ret (v := .agg #[.int .u8 3, .int .i32 0]) (by simp [results, Try.results29, go_sem]) rfl ⟨rfl, by exact (Below.refl _ _).alloc (Nat.le_refl _) _⟩
theorem takenTrue (w : World) (v : Int) : Calls Try.prog 30 #[.int .i32 v, .bool true] w fun e w' => e = .returned (.agg #[.int .u8 2, .int .i32 v]) ∧ Below w.heap.size w w' := by
  go_enter Try.func30, Try.ntmps30
  go_wp2
  exact bodyPost_ret (v := .agg #[.int .u8 2, .int .i32 v]) (by simp [results, Try.results30, go_sem]) rfl ⟨rfl, by exact (Below.refl _ _).alloc (Nat.le_refl _) _⟩
theorem takenFalse (w : World) (v : Int) : Calls Try.prog 30 #[.int .i32 v, .bool false] w fun e w' => e = .returned (.agg #[.int .u8 4, .int .i32 0]) ∧ Below w.heap.size w w' := by
  go_enter Try.func30, Try.ntmps30
  go_wp2
  exact bodyPost_ret (v := .agg #[.int .u8 4, .int .i32 0]) (by simp [results, Try.results30, go_sem]) rfl ⟨rfl, by exact (Below.refl _ _).alloc (Nat.le_refl _) _⟩

/-- The boxes with which Do begins: the operation, what it is told. -/
theorem begunDo (w : World) (k x : Int) : ∀ W, (w.alloc (.cells #[.int .u8 k, .int .i32 x] 34)).alloc (.cells #[.int .u8 0, .int .i32 0] 31) = W →
    W.cell? ⟨w.heap.size, 0, none⟩ = some (.int .u8 k) ∧ W.cell? ⟨w.heap.size, 1, none⟩ = some (.int .i32 x) ∧ RBox W (w.heap.size + 1) 0 0 ∧ Below w.heap.size w W := by
  rintro W rfl
  refine ⟨?_, ?_, ?_, ((Below.refl _ _).alloc (Nat.le_refl _) _).alloc (by simp) _⟩
  · go_simp
  · go_simp
  · unfold RBox
    have := heap_alloc_new (w.alloc (.cells #[.int .u8 k, .int .i32 x] 34)) (.cells #[.int .u8 0, .int .i32 0] 31)
    simpa using this

section
variable {w w1 w2 : World} {F : Nat → Prop} {p : Nat} {most : Int} {zs : List Int}
theorem Did.fresh (d : Did F p most zs w w1) (hb : Below w1.heap.size w1 w2) : Did F p most zs w w2 := by
  obtain ⟨F', s, wr, l⟩ := d
  exact ⟨F', s.fresh hb, wr.trans (Wrote.of hb F), l⟩

set_option maxHeartbeats 1600000 in
theorem doPushLOk (h : Rng w F p most zs) (x : Int) (hf : (zs.length : Int) < most) :
    Calls Try.prog 14 #[.pointer (some ⟨p, 0, none⟩), .agg #[.int .u8 1, .int .i32 x]] w fun e w' => e = .returned (.agg #[.int .u8 1, .int .i32 0]) ∧ Did F p most (x :: zs) w w' := by
  go_enter Try.func14, Try.ntmps14
  go_upto_region 1 with (fail)
  generalize hW : (w.alloc (.cells #[.int .u8 1, .int .i32 x] 34)).alloc (.cells #[.int .u8 0, .int .i32 0] 31) = W
  obtain ⟨o0, o1, b0, hb⟩ := begunDo w _ _ W hW
  clear hW
  have HX := Lib.hid (fun w1 (d : Did F p most (x :: zs) W w1) => d.boxed h.foot hb (g := w.heap.size + 1) (by omega) b0.lt)
  have HZ := Lib.hid b0
  have H := Lib.hid (h.fresh hb)
  clear h hb b0
  have C := pushLOk H.out x hf
  go_wp2_with fail
  refine C.mono ?_
  clear C
  rintro e w1 ⟨rfl, d⟩
  have HD := Lib.hid d
  clear d o0 o1
  go_wp2_with fail
  refine (putTrue w1).mono ?_
  rintro e w2 ⟨rfl, b2⟩
  obtain ⟨h1, h2⟩ := HX.out w2 (HD.out.fresh b2)
  have b1 : RBox w2 (w.heap.size + 1) 0 0 := h1.trans HZ.out
  have H2 := Lib.hid h2
  clear h1 h2 b2
  have c0 := b1.c0
  have c1 := b1.c1
  have f := b1.f
  have r := b1.set2 1 0
  have r0 := r.c0
  have r1 := r.c1
  clear b1 r
  go_wp2
  exact bodyPost_ret (v := .agg #[.int .u8 1, .int .i32 0]) (by simp [results, Try.results14, go_sem, r0, r1]) rfl ⟨rfl, H2.out _ _⟩

set_option maxHeartbeats 1600000 in
theorem doPushLFull (h : Rng w F p most zs) (x : Int) (hf : ¬ (zs.length : Int) < most) :
    Calls Try.prog 14 #[.pointer (some ⟨p, 0, none⟩), .agg #[.int .u8 1, .int .i32 x]] w fun e w' => e = .returned (.agg #[.int .u8 3, .int .i32 0]) ∧ Did F p most zs w w' := by
  go_enter Try.func14, Try.ntmps14
  go_upto_region 1 with (fail)
  generalize hW : (w.alloc (.cells #[.int .u8 1, .int .i32 x] 34)).alloc (.cells #[.int .u8 0, .int .i32 0] 31) = W
  obtain ⟨o0, o1, b0, hb⟩ := begunDo w _ _ W hW
  clear hW
  have HX := Lib.hid (fun w1 (d : Did F p most zs W w1) => d.boxed h.foot hb (g := w.heap.size + 1) (by omega) b0.lt)
  have HZ := Lib.hid b0
  have H := Lib.hid (h.fresh hb)
  clear h hb b0
  have C := pushLFull H.out x (by omega)
  go_wp2_with fail
  refine C.mono ?_
  clear C
  rintro e w1 ⟨rfl, rfl⟩
  clear o0 o1
  go_wp2_with fail
  refine (putFalse W).mono ?_
  rintro e w2 ⟨rfl, b2⟩
  obtain ⟨h1, h2⟩ := HX.out w2 (H.out.did b2)
  have b1 : RBox w2 (w.heap.size + 1) 0 0 := h1.trans HZ.out
  have H2 := Lib.hid h2
  clear h1 h2 b2
  have c0 := b1.c0
  have c1 := b1.c1
  have f := b1.f
  have r := b1.set2 3 0
  have r0 := r.c0
  have r1 := r.c1
  clear b1 r
  go_wp2
  exact bodyPost_ret (v := .agg #[.int .u8 3, .int .i32 0]) (by simp [results, Try.results14, go_sem, r0, r1]) rfl ⟨rfl, H2.out _ _⟩

set_option maxHeartbeats 1600000 in
theorem doPushROk (h : Rng w F p most zs) (x : Int) (hf : (zs.length : Int) < most) :
    Calls Try.prog 14 #[.pointer (some ⟨p, 0, none⟩), .agg #[.int .u8 2, .int .i32 x]] w fun e w' => e = .returned (.agg #[.int .u8 1, .int .i32 0]) ∧ Did F p most (zs ++ [x]) w w' := by
  go_enter Try.func14, Try.ntmps14
  go_upto_region 1 with (fail)
  generalize hW : (w.alloc (.cells #[.int .u8 2, .int .i32 x] 34)).alloc (.cells #[.int .u8 0, .int .i32 0] 31) = W
  obtain ⟨o0, o1, b0, hb⟩ := begunDo w _ _ W hW
  clear hW
  have HX := Lib.hid (fun w1 (d : Did F p most (zs ++ [x]) W w1) => d.boxed h.foot hb (g := w.heap.size + 1) (by omega) b0.lt)
  have HZ := Lib.hid b0
  have H := Lib.hid (h.fresh hb)
  clear h hb b0
  have C := pushROk H.out x hf
  go_wp2_with fail
  refine C.mono ?_
  clear C
  rintro e w1 ⟨rfl, d⟩
  have HD := Lib.hid d
  clear d o0 o1
  go_wp2_with fail
  refine (putTrue w1).mono ?_
  rintro e w2 ⟨rfl, b2⟩
  obtain ⟨h1, h2⟩ := HX.out w2 (HD.out.fresh b2)
  have b1 : RBox w2 (w.heap.size + 1) 0 0 := h1.trans HZ.out
  have H2 := Lib.hid h2
  clear h1 h2 b2
  have c0 := b1.c0
  have c1 := b1.c1
  have f := b1.f
  have r := b1.set2 1 0
  have r0 := r.c0
  have r1 := r.c1
  clear b1 r
  go_wp2
  exact bodyPost_ret (v := .agg #[.int .u8 1, .int .i32 0]) (by simp [results, Try.results14, go_sem, r0, r1]) rfl ⟨rfl, H2.out _ _⟩

set_option maxHeartbeats 1600000 in
theorem doPushRFull (h : Rng w F p most zs) (x : Int) (hf : ¬ (zs.length : Int) < most) :
    Calls Try.prog 14 #[.pointer (some ⟨p, 0, none⟩), .agg #[.int .u8 2, .int .i32 x]] w fun e w' => e = .returned (.agg #[.int .u8 3, .int .i32 0]) ∧ Did F p most zs w w' := by
  go_enter Try.func14, Try.ntmps14
  go_upto_region 1 with (fail)
  generalize hW : (w.alloc (.cells #[.int .u8 2, .int .i32 x] 34)).alloc (.cells #[.int .u8 0, .int .i32 0] 31) = W
  obtain ⟨o0, o1, b0, hb⟩ := begunDo w _ _ W hW
  clear hW
  have HX := Lib.hid (fun w1 (d : Did F p most zs W w1) => d.boxed h.foot hb (g := w.heap.size + 1) (by omega) b0.lt)
  have HZ := Lib.hid b0
  have H := Lib.hid (h.fresh hb)
  clear h hb b0
  have C := pushRFull H.out x (by omega)
  go_wp2_with fail
  refine C.mono ?_
  clear C
  rintro e w1 ⟨rfl, rfl⟩
  clear o0 o1
  go_wp2_with fail
  refine (putFalse W).mono ?_
  rintro e w2 ⟨rfl, b2⟩
  obtain ⟨h1, h2⟩ := HX.out w2 (H.out.did b2)
  have b1 : RBox w2 (w.heap.size + 1) 0 0 := h1.trans HZ.out
  have H2 := Lib.hid h2
  clear h1 h2 b2
  have c0 := b1.c0
  have c1 := b1.c1
  have f := b1.f
  have r := b1.set2 3 0
  have r0 := r.c0
  have r1 := r.c1
  clear b1 r
  go_wp2
  exact bodyPost_ret (v := .agg #[.int .u8 3, .int .i32 0]) (by simp [results, Try.results14, go_sem, r0, r1]) rfl ⟨rfl, H2.out _ _⟩

set_option maxHeartbeats 1600000 in
theorem doPopLOk (z : Int) (h : Rng w F p most (z :: zs)) (x : Int) :
    Calls Try.prog 14 #[.pointer (some ⟨p, 0, none⟩), .agg #[.int .u8 3, .int .i32 x]] w fun e w' => e = .returned (.agg #[.int .u8 2, .int .i32 z]) ∧ Did F p most zs w w' := by
  go_enter Try.func14, Try.ntmps14
  go_upto_region 1 with (fail)
  generalize hW : (w.alloc (.cells #[.int .u8 3, .int .i32 x] 34)).alloc (.cells #[.int .u8 0, .int .i32 0] 31) = W
  obtain ⟨o0, o1, b0, hb⟩ := begunDo w _ _ W hW
  clear hW
  have HX := Lib.hid (fun w1 (d : Did F p most zs W w1) => d.boxed h.foot hb (g := w.heap.size + 1) (by omega) b0.lt)
  have HZ := Lib.hid b0
  have H := Lib.hid (h.fresh hb)
  clear h hb b0
  have C := popLOk z H.out
  go_wp2_with fail
  refine C.mono ?_
  clear C
  rintro e w1 ⟨rfl, d⟩
  have HD := Lib.hid d
  clear d o0 o1
  go_wp2_with fail
  refine (takenTrue w1 z).mono ?_
  rintro e w2 ⟨rfl, b2⟩
  obtain ⟨h1, h2⟩ := HX.out w2 (HD.out.fresh b2)
  have b1 : RBox w2 (w.heap.size + 1) 0 0 := h1.trans HZ.out
  have H2 := Lib.hid h2
  clear h1 h2 b2
  have c0 := b1.c0
  have c1 := b1.c1
  have f := b1.f
  have r := b1.set2 2 z
  have r0 := r.c0
  have r1 := r.c1
  clear b1 r
  go_wp2
  exact bodyPost_ret (v := .agg #[.int .u8 2, .int .i32 z]) (by simp [results, Try.results14, go_sem, r0, r1]) rfl ⟨rfl, H2.out _ _⟩

set_option maxHeartbeats 1600000 in
theorem doPopLNone (h : Rng w F p most []) (x : Int) :
    Calls Try.prog 14 #[.pointer (some ⟨p, 0, none⟩), .agg #[.int .u8 3, .int .i32 x]] w fun e w' => e = .returned (.agg #[.int .u8 4, .int .i32 0]) ∧ Did F p most [] w w' := by
  go_enter Try.func14, Try.ntmps14
  go_upto_region 1 with (fail)
  generalize hW : (w.alloc (.cells #[.int .u8 3, .int .i32 x] 34)).alloc (.cells #[.int .u8 0, .int .i32 0] 31) = W
  obtain ⟨o0, o1, b0, hb⟩ := begunDo w _ _ W hW
  clear hW
  have HX := Lib.hid (fun w1 (d : Did F p most [] W w1) => d.boxed h.foot hb (g := w.heap.size + 1) (by omega) b0.lt)
  have HZ := Lib.hid b0
  have H := Lib.hid (h.fresh hb)
  clear h hb b0
  have C := popLNone H.out
  go_wp2_with fail
  refine C.mono ?_
  clear C
  rintro e w1 ⟨rfl, rfl⟩
  clear o0 o1
  go_wp2_with fail
  refine (takenFalse W 0).mono ?_
  rintro e w2 ⟨rfl, b2⟩
  obtain ⟨h1, h2⟩ := HX.out w2 (H.out.did b2)
  have b1 : RBox w2 (w.heap.size + 1) 0 0 := h1.trans HZ.out
  have H2 := Lib.hid h2
  clear h1 h2 b2
  have c0 := b1.c0
  have c1 := b1.c1
  have f := b1.f
  have r := b1.set2 4 0
  have r0 := r.c0
  have r1 := r.c1
  clear b1 r
  go_wp2
  exact bodyPost_ret (v := .agg #[.int .u8 4, .int .i32 0]) (by simp [results, Try.results14, go_sem, r0, r1]) rfl ⟨rfl, H2.out _ _⟩

set_option maxHeartbeats 1600000 in
theorem doPopROk (z : Int) (h : Rng w F p most (zs ++ [z])) (x : Int) :
    Calls Try.prog 14 #[.pointer (some ⟨p, 0, none⟩), .agg #[.int .u8 4, .int .i32 x]] w fun e w' => e = .returned (.agg #[.int .u8 2, .int .i32 z]) ∧ Did F p most zs w w' := by
  go_enter Try.func14, Try.ntmps14
  go_upto_region 1 with (fail)
  generalize hW : (w.alloc (.cells #[.int .u8 4, .int .i32 x] 34)).alloc (.cells #[.int .u8 0, .int .i32 0] 31) = W
  obtain ⟨o0, o1, b0, hb⟩ := begunDo w _ _ W hW
  clear hW
  have HX := Lib.hid (fun w1 (d : Did F p most zs W w1) => d.boxed h.foot hb (g := w.heap.size + 1) (by omega) b0.lt)
  have HZ := Lib.hid b0
  have H := Lib.hid (h.fresh hb)
  clear h hb b0
  have C := popROk z H.out
  go_wp2_with fail
  refine C.mono ?_
  clear C
  rintro e w1 ⟨rfl, d⟩
  have HD := Lib.hid d
  clear d o0 o1
  go_wp2_with fail
  refine (takenTrue w1 z).mono ?_
  rintro e w2 ⟨rfl, b2⟩
  obtain ⟨h1, h2⟩ := HX.out w2 (HD.out.fresh b2)
  have b1 : RBox w2 (w.heap.size + 1) 0 0 := h1.trans HZ.out
  have H2 := Lib.hid h2
  clear h1 h2 b2
  have c0 := b1.c0
  have c1 := b1.c1
  have f := b1.f
  have r := b1.set2 2 z
  have r0 := r.c0
  have r1 := r.c1
  clear b1 r
  go_wp2
  exact bodyPost_ret (v := .agg #[.int .u8 2, .int .i32 z]) (by simp [results, Try.results14, go_sem, r0, r1]) rfl ⟨rfl, H2.out _ _⟩

set_option maxHeartbeats 1600000 in
theorem doPopRNone (h : Rng w F p most []) (x : Int) :
    Calls Try.prog 14 #[.pointer (some ⟨p, 0, none⟩), .agg #[.int .u8 4, .int .i32 x]] w fun e w' => e = .returned (.agg #[.int .u8 4, .int .i32 0]) ∧ Did F p most [] w w' := by
  go_enter Try.func14, Try.ntmps14
  go_upto_region 1 with (fail)
  generalize hW : (w.alloc (.cells #[.int .u8 4, .int .i32 x] 34)).alloc (.cells #[.int .u8 0, .int .i32 0] 31) = W
  obtain ⟨o0, o1, b0, hb⟩ := begunDo w _ _ W hW
  clear hW
  have HX := Lib.hid (fun w1 (d : Did F p most [] W w1) => d.boxed h.foot hb (g := w.heap.size + 1) (by omega) b0.lt)
  have HZ := Lib.hid b0
  have H := Lib.hid (h.fresh hb)
  clear h hb b0
  have C := popRNone H.out
  go_wp2_with fail
  refine C.mono ?_
  clear C
  rintro e w1 ⟨rfl, rfl⟩
  clear o0 o1
  go_wp2_with fail
  refine (takenFalse W 0).mono ?_
  rintro e w2 ⟨rfl, b2⟩
  obtain ⟨h1, h2⟩ := HX.out w2 (H.out.did b2)
  have b1 : RBox w2 (w.heap.size + 1) 0 0 := h1.trans HZ.out
  have H2 := Lib.hid h2
  clear h1 h2 b2
  have c0 := b1.c0
  have c1 := b1.c1
  have f := b1.f
  have r := b1.set2 4 0
  have r0 := r.c0
  have r1 := r.c1
  clear b1 r
  go_wp2
  exact bodyPost_ret (v := .agg #[.int .u8 4, .int .i32 0]) (by simp [results, Try.results14, go_sem, r0, r1]) rfl ⟨rfl, H2.out _ _⟩

set_option maxHeartbeats 1600000 in
theorem doBad (h : Rng w F p most zs) (x : Int) (k : Int) (n1 : k ≠ 1) (n2 : k ≠ 2) (n3 : k ≠ 3) (n4 : k ≠ 4) :
    Calls Try.prog 14 #[.pointer (some ⟨p, 0, none⟩), .agg #[.int .u8 k, .int .i32 x]] w fun e w' => e = .returned (.agg #[.int .u8 5, .int .i32 0]) ∧ Did F p most zs w w' := by
  have d1 : (k == (1 : Int)) = false := beq_eq_false_iff_ne.2 n1
  have d2 : (k == (2 : Int)) = false := beq_eq_false_iff_ne.2 n2
  have d3 : (k == (3 : Int)) = false := beq_eq_false_iff_ne.2 n3
  have d4 : (k == (4 : Int)) = false := beq_eq_false_iff_ne.2 n4
  clear n1 n2 n3 n4
  go_enter Try.func14, Try.ntmps14
  go_upto_region 1 with (fail)
  generalize hW : (w.alloc (.cells #[.int .u8 k, .int .i32 x] 34)).alloc (.cells #[.int .u8 0, .int .i32 0] 31) = W
  obtain ⟨o0, o1, b0, hb⟩ := begunDo w _ _ W hW
  clear hW
  have HX := Lib.hid (fun w1 (d : Did F p most zs W w1) => d.boxed h.foot hb (g := w.heap.size + 1) (by omega) b0.lt)
  have HZ := Lib.hid b0
  have H := Lib.hid (h.fresh hb)
  clear h hb b0
  obtain ⟨h1, h2⟩ := HX.out W (H.out.did (Below.refl _ _))
  have b1 := HZ.out
  have H2 := Lib.hid h2
  clear h1 h2
  have c0 := b1.c0
  have c1 := b1.c1
  have f := b1.f
  have r := b1.set2 5 0
  have r0 := r.c0
  have r1 := r.c1
  clear b1 r
  go_wp2
  exact bodyPost_ret (v := .agg #[.int .u8 5, .int .i32 0]) (by simp [results, Try.results14, go_sem, r0, r1]) rfl ⟨rfl, H2.out _ _⟩

theorem doAny (h : Rng w F p most zs) (k x : Int) :
    Calls Try.prog 14 #[.pointer (some ⟨p, 0, none⟩), .agg #[.int .u8 k, .int .i32 x]] w fun e w' => e = .returned (.agg #[.int .u8 (dqC most zs k), .int .i32 (dqV zs k)]) ∧ Did F p most (dqL most zs k x) w w' := by
  by_cases h1 : k = 1
  · subst h1
    by_cases hf : (zs.length : Int) < most
    · exact (doPushLOk h x hf).mono fun _ _ ⟨a, b⟩ => ⟨by simpa [dqC, dqV, hf] using a, by simpa [dqL, hf] using b⟩
    · exact (doPushLFull h x hf).mono fun _ _ ⟨a, b⟩ => ⟨by simpa [dqC, dqV, hf] using a, by simpa [dqL, hf] using b⟩
  by_cases h2 : k = 2
  · subst h2
    by_cases hf : (zs.length : Int) < most
    · exact (doPushROk h x hf).mono fun _ _ ⟨a, b⟩ => ⟨by simpa [dqC, dqV, hf] using a, by simpa [dqL, hf] using b⟩
    · exact (doPushRFull h x hf).mono fun _ _ ⟨a, b⟩ => ⟨by simpa [dqC, dqV, hf] using a, by simpa [dqL, hf] using b⟩
  by_cases h3 : k = 3
  · subst h3
    cases zs with
    | nil => exact (doPopLNone h x).mono fun _ _ ⟨a, b⟩ => ⟨by simpa [dqC, dqV] using a, by simpa [dqL] using b⟩
    | cons z zs => exact (doPopLOk z h x).mono fun _ _ ⟨a, b⟩ => ⟨by simpa [dqC, dqV] using a, by simpa [dqL] using b⟩
  by_cases h4 : k = 4
  · subst h4
    rcases List.eq_nil_or_concat zs with rfl | ⟨ys, y, rfl⟩
    · exact (doPopRNone h x).mono fun _ _ ⟨a, b⟩ => ⟨by simpa [dqC, dqV] using a, by simpa [dqL] using b⟩
    · rw [List.concat_eq_append] at h ⊢
      exact (doPopROk y h x).mono fun _ _ ⟨a, b⟩ => ⟨by simpa [dqC, dqV] using a, by simpa [dqL] using b⟩
  exact (doBad h x k h1 h2 h3 h4).mono fun _ _ ⟨a, b⟩ => ⟨by simpa [dqC, dqV, h1, h2, h3, h4] using a, by simpa [dqL, h1, h2, h3, h4] using b⟩
end

end Go.Proofs.Ythjcfeljbmehmaa
