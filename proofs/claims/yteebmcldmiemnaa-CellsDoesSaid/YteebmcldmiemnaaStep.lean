/-
  What reaperlaw02.step does: the memory and the document's memory tell the same, and are the same behind it. Conditions: a memory as Mem says; steps below a million.
-/
import Derived.Test.YteebmcldmiemnaaRef02C
namespace Go.Proofs.Yteebmcldmiemnaa
open Go.RowKit

/-- The document's list is the memory's, in other blocks. -/
def RefOk (w : World) (B : Nat) (u : Value) (zs : List Int) (v : Value) : Prop :=
  w.ownsRow B 2 1 u zs.length (zs.map (Value.int .i64)) ∧ ∀ g, u.ownBlock = some g → v.ownBlock ≠ some g

/-- What a step leaves. -/
def Stepped (w : World) (B p : Nat) (v : Value) (size st : Int) (e : Ending) (w' : World) : Prop :=
  ∃ v' zs' st' u', e = .returned (.tuple #[.agg #[.int .i64 size, u', .int .i64 st'], .bool true]) ∧ Mem w' B p v' size zs' st' ∧ RefOk w' B u' zs' v' ∧ st ≤ st' ∧ st' ≤ st + 1 ∧ Wrote p v w w' ∧ Later v v' w

/-- A deed in a block of its own. -/
def Deeded (w : World) (N : Nat) (k n a o v : Int) : Prop := w.heap[N]? = some (.cells #[.int .u8 k, .int .i64 n, .int .u8 a, .int .i64 o, .int .i64 v] 52 (0, 0))
section
variable {w : World} {N : Nat} {k n a o v : Int}
theorem Deeded.c0 (h : Deeded w N k n a o v) : w.cell? ⟨N, 0, none⟩ = some (.int .u8 k) := by unfold Deeded at h; simp [World.cell?, h]
theorem Deeded.c1 (h : Deeded w N k n a o v) : w.cell? ⟨N, 1, none⟩ = some (.int .i64 n) := by unfold Deeded at h; simp [World.cell?, h]
theorem Deeded.c2 (h : Deeded w N k n a o v) : w.cell? ⟨N, 2, none⟩ = some (.int .u8 a) := by unfold Deeded at h; simp [World.cell?, h]
theorem Deeded.c3 (h : Deeded w N k n a o v) : w.cell? ⟨N, 3, none⟩ = some (.int .i64 o) := by unfold Deeded at h; simp [World.cell?, h]
theorem Deeded.c4 (h : Deeded w N k n a o v) : w.cell? ⟨N, 4, none⟩ = some (.int .i64 v) := by unfold Deeded at h; simp [World.cell?, h]
theorem Deeded.lt (h : Deeded w N k n a o v) : N < w.heap.size := lt_of_block h
end

/-- The boxes with which a step begins. -/
theorem begun3 (w : World) (a b c : Value) (k n x o v : Int) : ∀ W, ((w.alloc (.cells #[a, b, c] 49)).alloc (.cells #[.int .u8 k, .int .i64 n, .int .u8 x, .int .i64 o, .int .i64 v] 52)).alloc (.cells #[.int .i64 0, .slice none 0 0, .int .i64 0] 49) = W →
    Boxed W w.heap.size a b c ∧ Deeded W (w.heap.size + 1) k n x o v ∧ Boxed W (w.heap.size + 1 + 1) (.int .i64 0) (.slice none 0 0) (.int .i64 0) ∧ Below w.heap.size w W := by
  rintro W rfl
  refine ⟨((Boxed.new _ _ _ _).alloc _).alloc _, ?_, ?_, (((Below.refl _ _).alloc (Nat.le_refl _) _).alloc (by simp) _).alloc (by simp; omega) _⟩
  · unfold Deeded
    rw [Below.heap_alloc _ _ _ (by simp)]
    have := heap_alloc_new (w.alloc (.cells #[a, b, c] 49)) (.cells #[.int .u8 k, .int .i64 n, .int .u8 x, .int .i64 o, .int .i64 v] 52)
    simpa using this
  · have := Boxed.new ((w.alloc (.cells #[a, b, c] 49)).alloc (.cells #[.int .u8 k, .int .i64 n, .int .u8 x, .int .i64 o, .int .i64 v] 52)) (.int .i64 0) (.slice none 0 0) (.int .i64 0)
    simpa using this

theorem Below.wrote {w W : World} (h : Below w.heap.size w W) (p : Nat) (v : Value) : Wrote p v w W := ⟨h.os, h.tape, h.output, h.size, fun k hk _ _ => h.block k hk⟩

/-- What the boxes are behind a call on the memory, and the document's list. -/
theorem kept1 {w W w1 : World} {B p : Nat} {v u v1 : Value} {size : Int} {zs zs1 : List Int} {st st1 : Int} {a b c d e f : Value} {k n x o y : Int} (h : Mem w B p v size zs st) (hr : RefOk w B u zs v) (hb : Below w.heap.size w W)
    (X0 : Boxed W w.heap.size a b c) (X1 : Deeded W (w.heap.size + 1) k n x o y) (X2 : Boxed W (w.heap.size + 1 + 1) d e f) (m1 : Mem w1 B p v1 size zs1 st1) (wr : Wrote p v W w1) (l1 : Later v v1 W) :
    Boxed w1 w.heap.size a b c ∧ Deeded w1 (w.heap.size + 1) k n x o y ∧ Boxed w1 (w.heap.size + 1 + 1) d e f ∧ w1.ownsRow B 2 1 u zs.length (zs.map (Value.int .i64)) ∧ (∀ g, u.ownBlock = some g → v1.ownBlock ≠ some g) := by
  have hp := h.lt
  have hk : ∀ j, w.heap.size ≤ j → j < W.heap.size → w1.heap[j]? = W.heap[j]? := fun j h1 h2 => wr.block j h2 (by omega) (fun e => by have := (h.rowLt e).2; omega)
  refine ⟨(hk _ (Nat.le_refl _) X0.lt).trans X0, (hk _ (by omega) X1.lt).trans X1, (hk _ (by omega) X2.lt).trans X2, ?_, ?_⟩
  · have hW := own_keep hr.1 hb
    refine ⟨hW.1, ?_⟩
    rcases hW.2 with hn | ⟨g, cap, cur, rfl, hl, hg, r⟩
    · exact .inl hn
    · refine .inr ⟨g, cap, cur, rfl, hl, ?_, r⟩
      rw [wr.block g (lt_of_block hg) ?_ (hr.2 g rfl)]
      · exact hg
      · intro e
        subst e
        have hx := (hb.block g hp).trans h.block
        rw [hg] at hx
        simp at hx
  · intro g hg e
    rcases l1 g e with e' | e'
    · exact hr.2 g hg e'
    · have := (hr.1.lt g hg).2
      have := hb.size
      omega

theorem ownShape' {w : World} {base : Nat} {e : TypeId} {v : Value} {n : Nat} {xs : List Value} (h : w.ownsRow base e 1 v n xs) : ∃ ao m cap, v = .slice ao m cap := by
  obtain ⟨ao, cap, hv⟩ := ownShape h
  exact ⟨ao, n, cap, hv⟩

/-- The end of a step. -/
theorem stepped_end {w W w1 w2 : World} {B p : Nat} {v u v1 u2 : Value} {size : Int} {zs zs0 zs1 : List Int} {st st1 : Int} {d e f a0 a1 a2 : Value} (h : Mem w B p v size zs st) (hb : Below w.heap.size w W)
    (m1 : Mem w1 B p v1 size zs1 st1) (wr : Wrote p v W w1) (l1 : Later v v1 W) (_ : w1.ownsRow B 2 1 u zs0.length (zs0.map (Value.int .i64))) (hap : ∀ g, u.ownBlock = some g → v1.ownBlock ≠ some g)
    (hl : Left w1 B u zs1 u2 w2) (X2 : Boxed w1 (w.heap.size + 1 + 1) d e f) (s0 : st ≤ st1) (s1 : st1 ≤ st + 1) (ob : Obj) :
    Stepped w B p v size st (.returned (.tuple #[.agg #[.int .i64 size, u2, .int .i64 st1], .bool true]))
      ((((w2.alloc ob).setCell ⟨w.heap.size + 1 + 1, 0, none⟩ a0).setCell ⟨w.heap.size + 1 + 1, 1, none⟩ a1).setCell ⟨w.heap.size + 1 + 1, 2, none⟩ a2) := by
  obtain ⟨ho2, l2, b2⟩ := hl
  have hp := h.lt
  have X2' := (X2.keep b2).alloc ob
  have m2 := (m1.fresh b2).alloc ob
  have ho3 := ho2.alloc ob
  have hv : v1.ownBlock ≠ some (w.heap.size + 1 + 1) := own_ne_boxed m2.own X2'
  have hu2 : u2.ownBlock ≠ some (w.heap.size + 1 + 1) := own_ne_boxed ho3 X2'
  refine ⟨v1, zs1, st1, u2, rfl, ?_, ⟨?_, ?_⟩, s0, s1, ?_, ?_⟩
  · exact ((m2.setOther (q := ⟨_, 0, none⟩) (by simp; omega) hv _).setOther (q := ⟨_, 1, none⟩) (by simp; omega) hv _).setOther (q := ⟨_, 2, none⟩) (by simp; omega) hv _
  · exact ownsRow_setCell_other (ownsRow_setCell_other (ownsRow_setCell_other ho3 hu2 _) hu2 _) hu2 _
  · intro g hg
    rcases l2 g hg with e' | e'
    · exact hap g e'
    · intro e''
      have := (m1.rowLt e'').2
      omega
  · have w1' := ((Below.wrote hb p v).trans wr)
    have w2' : Wrote p v w w2 := w1'.trans ⟨b2.os, b2.tape, b2.output, b2.size, fun k hk _ _ => b2.block k hk⟩
    exact (((w2'.alloc ob).setCell (.inl (by simp; omega)) _).setCell (.inl (by simp; omega)) _).setCell (.inl (by simp; omega)) _
  · intro g hg
    rcases l1 g hg with e' | e'
    · exact .inl e'
    · exact .inr (Nat.le_trans hb.size e')

section
variable {w : World} {B p : Nat} {v u : Value} {size : Int} {zs : List Int} {st : Int}


set_option maxRecDepth 100000 in
set_option maxHeartbeats 4000000 in
theorem step0neg (h : Mem w B p v size zs st) (hr : RefOk w B u zs v) (k n a o x : Int) (ha0 : 0 ≤ a) (ha1 : a ≤ 255) (hk0 : 0 ≤ k) (hk1 : k ≤ 255) (h5 : k % 5 = 0) (hn : n < 0) (_ : 0 ≤ st) (_ : st < 1000000) :
    Calls Try.prog 22 #[.pointer (some ⟨p, 0, none⟩), .agg #[.int .i64 size, u, .int .i64 st], .agg #[.int .u8 k, .int .i64 n, .int .u8 a, .int .i64 o, .int .i64 x]] w (Stepped w B p v size st) := by
  obtain ⟨ao, cap, rfl⟩ := ownShape hr.1
  have hbase := h.base
  go_enter Try.func22, Try.ntmps22
  go_wp2_with fail
  generalize hW : ((w.alloc (.cells #[.int .i64 size, .slice ao zs.length cap, .int .i64 st] 49)).alloc (.cells #[.int .u8 k, .int .i64 n, .int .u8 a, .int .i64 o, .int .i64 x] 52)).alloc (.cells #[.int .i64 0, .slice none 0 0, .int .i64 0] 49) = W
  obtain ⟨X0, X1, X2, hb⟩ := begun3 w _ _ _ _ _ _ _ _ W hW
  clear hW
  have C := allocNeg (h.fresh hb) n hn
  have HH := Lib.hid h
  have HR := Lib.hid hr
  have HX0 := Lib.hid X0
  have HX1 := Lib.hid X1
  have HX2 := Lib.hid X2
  have HB := Lib.hid hb
  clear X0 X1 X2 hb h hr
  refine C.mono ?_
  clear C
  rintro e w1 ⟨rfl, v1, m1, wr1, l1⟩
  obtain ⟨Y0, Y1, Y2, hu, hap⟩ := kept1 HH.out HR.out HB.out HX0.out HX1.out HX2.out m1 wr1 l1
  have C := refAllocNeg (size := size) (st := st) hu (Nat.le_trans hbase (Nat.le_trans HB.out.size wr1.size)) n hn
  have d0 := Y0.c0
  have d1 := Y0.c1
  have d2 := Y0.c2
  have f1 := Y1.c1
  have f2 := Y1.c2
  have f3 := Y1.c3
  have f4 := Y1.c4
  have HM1 := Lib.hid m1
  have HW1 := Lib.hid wr1
  have HL1 := Lib.hid l1
  have HU := Lib.hid hu
  have HAP := Lib.hid hap
  have HY2 := Lib.hid Y2
  clear m1 wr1 l1 hu hap Y0 Y1 Y2
  go_wp2_with fail
  refine C.mono ?_
  clear C
  rintro e w2 ⟨u2, rfl, hl⟩
  obtain ⟨ao2, n2, cap2, rfl⟩ := ownShape' hl.1
  have HL := Lib.hid hl
  have Z2 := HY2.out.keep hl.2.2
  have HZ2 := Lib.hid Z2
  clear hl Z2
  go_upto_region 6 with (fail)
  generalize hW3 : w2.alloc (.cells #[.int .i64 size, .slice ao2 n2 cap2, .int .i64 (st)] 49) = W3
  have HZ3 := Lib.hid (show Boxed W3 w2.heap.size (.int .i64 size) (.slice ao2 n2 cap2) (.int .i64 (st)) by subst hW3; exact Boxed.new _ _ _ _)
  have HZ4 := Lib.hid (show Boxed W3 (w.heap.size + 1 + 1) (.int .i64 0) (.slice none 0 0) (.int .i64 0) by subst hW3; exact HZ2.out.alloc _)
  have HW3 := Lib.hid hW3
  clear hW3
  have t0 := HZ3.out.c0
  have t1 := HZ3.out.c1
  have t2 := HZ3.out.c2
  have e0 := HZ4.out.c0
  have e1 := HZ4.out.c1
  have e2 := HZ4.out.c2
  have ef := HZ4.out.f
  go_wp2
  have Z := ((HZ4.out.set0 (.int .i64 size)).set1 (.slice ao2 n2 cap2)).set2 (.int .i64 (st))
  refine bodyPost_ret (v := .tuple #[.agg #[.int .i64 size, .slice ao2 n2 cap2, .int .i64 (st)], .bool true]) (by simp [results, Try.results22, go_sem, Z.c0, Z.c1, Z.c2]) rfl ?_
  rw [← HW3.out]
  exact stepped_end HH.out HB.out HM1.out HW1.out HL1.out HU.out HAP.out HL.out HY2.out (by omega) (by omega) _

set_option maxRecDepth 100000 in
set_option maxHeartbeats 4000000 in
theorem step0full (h : Mem w B p v size zs st) (hr : RefOk w B u zs v) (k n a o x : Int) (ha0 : 0 ≤ a) (ha1 : a ≤ 255) (hk0 : 0 ≤ k) (hk1 : k ≤ 255) (h5 : k % 5 = 0) (hn : 0 ≤ n) (hn1 : size - zs.length < n) (_ : 0 ≤ st) (_ : st < 1000000) :
    Calls Try.prog 22 #[.pointer (some ⟨p, 0, none⟩), .agg #[.int .i64 size, u, .int .i64 st], .agg #[.int .u8 k, .int .i64 n, .int .u8 a, .int .i64 o, .int .i64 x]] w (Stepped w B p v size st) := by
  obtain ⟨ao, cap, rfl⟩ := ownShape hr.1
  have hbase := h.base
  have s0 := h.s0
  have s1 := h.s1
  have s2 := h.room
  go_enter Try.func22, Try.ntmps22
  go_wp2_with fail
  generalize hW : ((w.alloc (.cells #[.int .i64 size, .slice ao zs.length cap, .int .i64 st] 49)).alloc (.cells #[.int .u8 k, .int .i64 n, .int .u8 a, .int .i64 o, .int .i64 x] 52)).alloc (.cells #[.int .i64 0, .slice none 0 0, .int .i64 0] 49) = W
  obtain ⟨X0, X1, X2, hb⟩ := begun3 w _ _ _ _ _ _ _ _ W hW
  clear hW
  have C := allocFull (h.fresh hb) n ⟨hn, hn1⟩
  have HH := Lib.hid h
  have HR := Lib.hid hr
  have HX0 := Lib.hid X0
  have HX1 := Lib.hid X1
  have HX2 := Lib.hid X2
  have HB := Lib.hid hb
  clear X0 X1 X2 hb h hr
  refine C.mono ?_
  clear C
  rintro e w1 ⟨rfl, v1, m1, wr1, l1⟩
  obtain ⟨Y0, Y1, Y2, hu, hap⟩ := kept1 HH.out HR.out HB.out HX0.out HX1.out HX2.out m1 wr1 l1
  have C := refAllocFull (size := size) (st := st) hu (Nat.le_trans hbase (Nat.le_trans HB.out.size wr1.size)) n s0 s1 s2 hn hn1
  have d0 := Y0.c0
  have d1 := Y0.c1
  have d2 := Y0.c2
  have f1 := Y1.c1
  have f2 := Y1.c2
  have f3 := Y1.c3
  have f4 := Y1.c4
  have HM1 := Lib.hid m1
  have HW1 := Lib.hid wr1
  have HL1 := Lib.hid l1
  have HU := Lib.hid hu
  have HAP := Lib.hid hap
  have HY2 := Lib.hid Y2
  clear m1 wr1 l1 hu hap Y0 Y1 Y2
  go_wp2_with fail
  refine C.mono ?_
  clear C
  rintro e w2 ⟨u2, rfl, hl⟩
  obtain ⟨ao2, n2, cap2, rfl⟩ := ownShape' hl.1
  have HL := Lib.hid hl
  have Z2 := HY2.out.keep hl.2.2
  have HZ2 := Lib.hid Z2
  clear hl Z2
  go_upto_region 6 with (fail)
  generalize hW3 : w2.alloc (.cells #[.int .i64 size, .slice ao2 n2 cap2, .int .i64 (st)] 49) = W3
  have HZ3 := Lib.hid (show Boxed W3 w2.heap.size (.int .i64 size) (.slice ao2 n2 cap2) (.int .i64 (st)) by subst hW3; exact Boxed.new _ _ _ _)
  have HZ4 := Lib.hid (show Boxed W3 (w.heap.size + 1 + 1) (.int .i64 0) (.slice none 0 0) (.int .i64 0) by subst hW3; exact HZ2.out.alloc _)
  have HW3 := Lib.hid hW3
  clear hW3
  have t0 := HZ3.out.c0
  have t1 := HZ3.out.c1
  have t2 := HZ3.out.c2
  have e0 := HZ4.out.c0
  have e1 := HZ4.out.c1
  have e2 := HZ4.out.c2
  have ef := HZ4.out.f
  go_wp2
  have Z := ((HZ4.out.set0 (.int .i64 size)).set1 (.slice ao2 n2 cap2)).set2 (.int .i64 (st))
  refine bodyPost_ret (v := .tuple #[.agg #[.int .i64 size, .slice ao2 n2 cap2, .int .i64 (st)], .bool true]) (by simp [results, Try.results22, go_sem, Z.c0, Z.c1, Z.c2]) rfl ?_
  rw [← HW3.out]
  exact stepped_end HH.out HB.out HM1.out HW1.out HL1.out HU.out HAP.out HL.out HY2.out (by omega) (by omega) _

set_option maxRecDepth 100000 in
set_option maxHeartbeats 4000000 in
theorem step0ok (h : Mem w B p v size zs st) (hr : RefOk w B u zs v) (k n a o x : Int) (ha0 : 0 ≤ a) (ha1 : a ≤ 255) (hk0 : 0 ≤ k) (hk1 : k ≤ 255) (h5 : k % 5 = 0) (hn : 0 ≤ n) (hn1 : n ≤ size - zs.length) (k0 : 0 ≤ st) (k1 : st < 1000000) :
    Calls Try.prog 22 #[.pointer (some ⟨p, 0, none⟩), .agg #[.int .i64 size, u, .int .i64 st], .agg #[.int .u8 k, .int .i64 n, .int .u8 a, .int .i64 o, .int .i64 x]] w (Stepped w B p v size st) := by
  obtain ⟨ao, cap, rfl⟩ := ownShape hr.1
  have hbase := h.base
  have s1 := h.s1
  have s2 := h.room
  obtain ⟨m, rfl⟩ : ∃ m : Nat, n = (m : Int) := ⟨n.toNat, by omega⟩
  go_enter Try.func22, Try.ntmps22
  go_wp2_with fail
  generalize hW : ((w.alloc (.cells #[.int .i64 size, .slice ao zs.length cap, .int .i64 st] 49)).alloc (.cells #[.int .u8 k, .int .i64 (m : Int), .int .u8 a, .int .i64 o, .int .i64 x] 52)).alloc (.cells #[.int .i64 0, .slice none 0 0, .int .i64 0] 49) = W
  obtain ⟨X0, X1, X2, hb⟩ := begun3 w _ _ _ _ _ _ _ _ W hW
  clear hW
  have C := allocOk (h.fresh hb) m hn1 k0 k1
  have HH := Lib.hid h
  have HR := Lib.hid hr
  have HX0 := Lib.hid X0
  have HX1 := Lib.hid X1
  have HX2 := Lib.hid X2
  have HB := Lib.hid hb
  clear X0 X1 X2 hb h hr
  refine C.mono ?_
  clear C
  rintro e w1 ⟨rfl, v1, m1, wr1, l1⟩
  obtain ⟨Y0, Y1, Y2, hu, hap⟩ := kept1 HH.out HR.out HB.out HX0.out HX1.out HX2.out m1 wr1 l1
  have C := refAllocOk (size := size) (st := st) hu (Nat.le_trans hbase (Nat.le_trans HB.out.size wr1.size)) m s1 s2 hn1 k0 k1
  have d0 := Y0.c0
  have d1 := Y0.c1
  have d2 := Y0.c2
  have f1 := Y1.c1
  have f2 := Y1.c2
  have f3 := Y1.c3
  have f4 := Y1.c4
  have HM1 := Lib.hid m1
  have HW1 := Lib.hid wr1
  have HL1 := Lib.hid l1
  have HU := Lib.hid hu
  have HAP := Lib.hid hap
  have HY2 := Lib.hid Y2
  clear m1 wr1 l1 hu hap Y0 Y1 Y2
  go_wp2_with fail
  refine C.mono ?_
  clear C
  rintro e w2 ⟨u2, rfl, hl⟩
  obtain ⟨ao2, n2, cap2, rfl⟩ := ownShape' hl.1
  have HL := Lib.hid hl
  have Z2 := HY2.out.keep hl.2.2
  have HZ2 := Lib.hid Z2
  clear hl Z2
  go_upto_region 6 with (fail)
  generalize hW3 : w2.alloc (.cells #[.int .i64 size, .slice ao2 n2 cap2, .int .i64 (st + 1)] 49) = W3
  have HZ3 := Lib.hid (show Boxed W3 w2.heap.size (.int .i64 size) (.slice ao2 n2 cap2) (.int .i64 (st + 1)) by subst hW3; exact Boxed.new _ _ _ _)
  have HZ4 := Lib.hid (show Boxed W3 (w.heap.size + 1 + 1) (.int .i64 0) (.slice none 0 0) (.int .i64 0) by subst hW3; exact HZ2.out.alloc _)
  have HW3 := Lib.hid hW3
  clear hW3
  have t0 := HZ3.out.c0
  have t1 := HZ3.out.c1
  have t2 := HZ3.out.c2
  have e0 := HZ4.out.c0
  have e1 := HZ4.out.c1
  have e2 := HZ4.out.c2
  have ef := HZ4.out.f
  go_wp2
  have Z := ((HZ4.out.set0 (.int .i64 size)).set1 (.slice ao2 n2 cap2)).set2 (.int .i64 (st + 1))
  refine bodyPost_ret (v := .tuple #[.agg #[.int .i64 size, .slice ao2 n2 cap2, .int .i64 (st + 1)], .bool true]) (by simp [results, Try.results22, go_sem, Z.c0, Z.c1, Z.c2]) rfl ?_
  rw [← HW3.out]
  exact stepped_end HH.out HB.out HM1.out HW1.out HL1.out HU.out HAP.out HL.out HY2.out (by omega) (by omega) _

set_option maxRecDepth 100000 in
set_option maxHeartbeats 4000000 in
theorem step1in (h : Mem w B p v size zs st) (hr : RefOk w B u zs v) (k n a o x : Int) (ha0 : 0 ≤ a) (ha1 : a ≤ 255) (hk0 : 0 ≤ k) (hk1 : k ≤ 255) (h5 : k % 5 = 1) (h0 : 0 ≤ ((a - 2).tmod 24)) (h1 : ((a - 2).tmod 24) < zs.length) (k0 : 0 ≤ st) (k1 : st < 1000000) :
    Calls Try.prog 22 #[.pointer (some ⟨p, 0, none⟩), .agg #[.int .i64 size, u, .int .i64 st], .agg #[.int .u8 k, .int .i64 n, .int .u8 a, .int .i64 o, .int .i64 x]] w (Stepped w B p v size st) := by
  obtain ⟨ao, cap, rfl⟩ := ownShape hr.1
  have hbase := h.base
  obtain ⟨y, hy⟩ : ∃ y, zs.getD ((a - 2).tmod 24).toNat 0 = y := ⟨_, rfl⟩
  go_enter Try.func22, Try.ntmps22
  go_wp2_with fail
  generalize hW : ((w.alloc (.cells #[.int .i64 size, .slice ao zs.length cap, .int .i64 st] 49)).alloc (.cells #[.int .u8 k, .int .i64 n, .int .u8 a, .int .i64 o, .int .i64 x] 52)).alloc (.cells #[.int .i64 0, .slice none 0 0, .int .i64 0] 49) = W
  obtain ⟨X0, X1, X2, hb⟩ := begun3 w _ _ _ _ _ _ _ _ W hW
  clear hW
  have C := loadIn (h.fresh hb) ((a - 2).tmod 24) h0 h1 k0 k1
  rw [hy] at C
  have HH := Lib.hid h
  have HR := Lib.hid hr
  have HX0 := Lib.hid X0
  have HX1 := Lib.hid X1
  have HX2 := Lib.hid X2
  have HB := Lib.hid hb
  clear X0 X1 X2 hb h hr
  refine C.mono ?_
  clear C
  rintro e w1 ⟨rfl, v1, m1, wr1, l1⟩
  obtain ⟨Y0, Y1, Y2, hu, hap⟩ := kept1 HH.out HR.out HB.out HX0.out HX1.out HX2.out m1 wr1 l1
  have C := refLoadIn (size := size) (st := st) hu (Nat.le_trans hbase (Nat.le_trans HB.out.size wr1.size)) ((a - 2).tmod 24) h0 h1 k0 k1
  rw [hy] at C
  have d0 := Y0.c0
  have d1 := Y0.c1
  have d2 := Y0.c2
  have f1 := Y1.c1
  have f2 := Y1.c2
  have f3 := Y1.c3
  have f4 := Y1.c4
  have HM1 := Lib.hid m1
  have HW1 := Lib.hid wr1
  have HL1 := Lib.hid l1
  have HU := Lib.hid hu
  have HAP := Lib.hid hap
  have HY2 := Lib.hid Y2
  clear m1 wr1 l1 hu hap Y0 Y1 Y2
  go_wp2_with fail
  refine C.mono ?_
  clear C
  rintro e w2 ⟨u2, rfl, hl⟩
  obtain ⟨ao2, n2, cap2, rfl⟩ := ownShape' hl.1
  have HL := Lib.hid hl
  have Z2 := HY2.out.keep hl.2.2
  have HZ2 := Lib.hid Z2
  clear hl Z2
  go_upto_region 10 with (fail)
  generalize hW3 : w2.alloc (.cells #[.int .i64 size, .slice ao2 n2 cap2, .int .i64 (st + 1)] 49) = W3
  have HZ3 := Lib.hid (show Boxed W3 w2.heap.size (.int .i64 size) (.slice ao2 n2 cap2) (.int .i64 (st + 1)) by subst hW3; exact Boxed.new _ _ _ _)
  have HZ4 := Lib.hid (show Boxed W3 (w.heap.size + 1 + 1) (.int .i64 0) (.slice none 0 0) (.int .i64 0) by subst hW3; exact HZ2.out.alloc _)
  have HW3 := Lib.hid hW3
  clear hW3
  have t0 := HZ3.out.c0
  have t1 := HZ3.out.c1
  have t2 := HZ3.out.c2
  have e0 := HZ4.out.c0
  have e1 := HZ4.out.c1
  have e2 := HZ4.out.c2
  have ef := HZ4.out.f
  go_wp2
  have Z := ((HZ4.out.set0 (.int .i64 size)).set1 (.slice ao2 n2 cap2)).set2 (.int .i64 (st + 1))
  refine bodyPost_ret (v := .tuple #[.agg #[.int .i64 size, .slice ao2 n2 cap2, .int .i64 (st + 1)], .bool true]) (by simp [results, Try.results22, go_sem, Z.c0, Z.c1, Z.c2]) rfl ?_
  rw [← HW3.out]
  exact stepped_end HH.out HB.out HM1.out HW1.out HL1.out HU.out HAP.out HL.out HY2.out (by omega) (by omega) _

set_option maxRecDepth 100000 in
set_option maxHeartbeats 4000000 in
theorem step1out (h : Mem w B p v size zs st) (hr : RefOk w B u zs v) (k n a o x : Int) (ha0 : 0 ≤ a) (ha1 : a ≤ 255) (hk0 : 0 ≤ k) (hk1 : k ≤ 255) (h5 : k % 5 = 1) (h0 : ((a - 2).tmod 24) < 0 ∨ zs.length ≤ ((a - 2).tmod 24)) (_ : 0 ≤ st) (_ : st < 1000000) :
    Calls Try.prog 22 #[.pointer (some ⟨p, 0, none⟩), .agg #[.int .i64 size, u, .int .i64 st], .agg #[.int .u8 k, .int .i64 n, .int .u8 a, .int .i64 o, .int .i64 x]] w (Stepped w B p v size st) := by
  obtain ⟨ao, cap, rfl⟩ := ownShape hr.1
  have hbase := h.base
  go_enter Try.func22, Try.ntmps22
  go_wp2_with fail
  generalize hW : ((w.alloc (.cells #[.int .i64 size, .slice ao zs.length cap, .int .i64 st] 49)).alloc (.cells #[.int .u8 k, .int .i64 n, .int .u8 a, .int .i64 o, .int .i64 x] 52)).alloc (.cells #[.int .i64 0, .slice none 0 0, .int .i64 0] 49) = W
  obtain ⟨X0, X1, X2, hb⟩ := begun3 w _ _ _ _ _ _ _ _ W hW
  clear hW
  have C := loadOut (h.fresh hb) ((a - 2).tmod 24) h0
  have HH := Lib.hid h
  have HR := Lib.hid hr
  have HX0 := Lib.hid X0
  have HX1 := Lib.hid X1
  have HX2 := Lib.hid X2
  have HB := Lib.hid hb
  clear X0 X1 X2 hb h hr
  refine C.mono ?_
  clear C
  rintro e w1 ⟨rfl, v1, m1, wr1, l1⟩
  obtain ⟨Y0, Y1, Y2, hu, hap⟩ := kept1 HH.out HR.out HB.out HX0.out HX1.out HX2.out m1 wr1 l1
  have C := refLoadOut (size := size) (st := st) hu (Nat.le_trans hbase (Nat.le_trans HB.out.size wr1.size)) ((a - 2).tmod 24) h0
  have d0 := Y0.c0
  have d1 := Y0.c1
  have d2 := Y0.c2
  have f1 := Y1.c1
  have f2 := Y1.c2
  have f3 := Y1.c3
  have f4 := Y1.c4
  have HM1 := Lib.hid m1
  have HW1 := Lib.hid wr1
  have HL1 := Lib.hid l1
  have HU := Lib.hid hu
  have HAP := Lib.hid hap
  have HY2 := Lib.hid Y2
  clear m1 wr1 l1 hu hap Y0 Y1 Y2
  go_wp2_with fail
  refine C.mono ?_
  clear C
  rintro e w2 ⟨u2, rfl, hl⟩
  obtain ⟨ao2, n2, cap2, rfl⟩ := ownShape' hl.1
  have HL := Lib.hid hl
  have Z2 := HY2.out.keep hl.2.2
  have HZ2 := Lib.hid Z2
  clear hl Z2
  go_upto_region 10 with (fail)
  generalize hW3 : w2.alloc (.cells #[.int .i64 size, .slice ao2 n2 cap2, .int .i64 (st)] 49) = W3
  have HZ3 := Lib.hid (show Boxed W3 w2.heap.size (.int .i64 size) (.slice ao2 n2 cap2) (.int .i64 (st)) by subst hW3; exact Boxed.new _ _ _ _)
  have HZ4 := Lib.hid (show Boxed W3 (w.heap.size + 1 + 1) (.int .i64 0) (.slice none 0 0) (.int .i64 0) by subst hW3; exact HZ2.out.alloc _)
  have HW3 := Lib.hid hW3
  clear hW3
  have t0 := HZ3.out.c0
  have t1 := HZ3.out.c1
  have t2 := HZ3.out.c2
  have e0 := HZ4.out.c0
  have e1 := HZ4.out.c1
  have e2 := HZ4.out.c2
  have ef := HZ4.out.f
  go_wp2
  have Z := ((HZ4.out.set0 (.int .i64 size)).set1 (.slice ao2 n2 cap2)).set2 (.int .i64 (st))
  refine bodyPost_ret (v := .tuple #[.agg #[.int .i64 size, .slice ao2 n2 cap2, .int .i64 (st)], .bool true]) (by simp [results, Try.results22, go_sem, Z.c0, Z.c1, Z.c2]) rfl ?_
  rw [← HW3.out]
  exact stepped_end HH.out HB.out HM1.out HW1.out HL1.out HU.out HAP.out HL.out HY2.out (by omega) (by omega) _

set_option maxRecDepth 100000 in
set_option maxHeartbeats 4000000 in
theorem step2in (h : Mem w B p v size zs st) (hr : RefOk w B u zs v) (k n a o x : Int) (ha0 : 0 ≤ a) (ha1 : a ≤ 255) (hk0 : 0 ≤ k) (hk1 : k ≤ 255) (h5 : k % 5 = 2) (h0 : 0 ≤ ((a - 2).tmod 24)) (h1 : ((a - 2).tmod 24) < zs.length) (k0 : 0 ≤ st) (k1 : st < 1000000) :
    Calls Try.prog 22 #[.pointer (some ⟨p, 0, none⟩), .agg #[.int .i64 size, u, .int .i64 st], .agg #[.int .u8 k, .int .i64 n, .int .u8 a, .int .i64 o, .int .i64 x]] w (Stepped w B p v size st) := by
  obtain ⟨ao, cap, rfl⟩ := ownShape hr.1
  have hbase := h.base
  have s1 := h.s1
  have s2 := h.room
  go_enter Try.func22, Try.ntmps22
  go_wp2_with fail
  generalize hW : ((w.alloc (.cells #[.int .i64 size, .slice ao zs.length cap, .int .i64 st] 49)).alloc (.cells #[.int .u8 k, .int .i64 n, .int .u8 a, .int .i64 o, .int .i64 x] 52)).alloc (.cells #[.int .i64 0, .slice none 0 0, .int .i64 0] 49) = W
  obtain ⟨X0, X1, X2, hb⟩ := begun3 w _ _ _ _ _ _ _ _ W hW
  clear hW
  have C := storeIn (h.fresh hb) ((a - 2).tmod 24) x h0 h1 k0 k1
  have HH := Lib.hid h
  have HR := Lib.hid hr
  have HX0 := Lib.hid X0
  have HX1 := Lib.hid X1
  have HX2 := Lib.hid X2
  have HB := Lib.hid hb
  clear X0 X1 X2 hb h hr
  refine C.mono ?_
  clear C
  rintro e w1 ⟨rfl, v1, m1, wr1, l1⟩
  obtain ⟨Y0, Y1, Y2, hu, hap⟩ := kept1 HH.out HR.out HB.out HX0.out HX1.out HX2.out m1 wr1 l1
  have C := refStoreIn (size := size) (st := st) hu (Nat.le_trans hbase (Nat.le_trans HB.out.size wr1.size)) ((a - 2).tmod 24) x h0 h1 (by have := s1; have := s2; omega) k0 k1
  have d0 := Y0.c0
  have d1 := Y0.c1
  have d2 := Y0.c2
  have f1 := Y1.c1
  have f2 := Y1.c2
  have f3 := Y1.c3
  have f4 := Y1.c4
  have HM1 := Lib.hid m1
  have HW1 := Lib.hid wr1
  have HL1 := Lib.hid l1
  have HU := Lib.hid hu
  have HAP := Lib.hid hap
  have HY2 := Lib.hid Y2
  clear m1 wr1 l1 hu hap Y0 Y1 Y2
  go_wp2_with fail
  refine C.mono ?_
  clear C
  rintro e w2 ⟨u2, rfl, hl⟩
  obtain ⟨ao2, n2, cap2, rfl⟩ := ownShape' hl.1
  have HL := Lib.hid hl
  have Z2 := HY2.out.keep hl.2.2
  have HZ2 := Lib.hid Z2
  clear hl Z2
  go_upto_region 14 with (fail)
  generalize hW3 : w2.alloc (.cells #[.int .i64 size, .slice ao2 n2 cap2, .int .i64 (st + 1)] 49) = W3
  have HZ3 := Lib.hid (show Boxed W3 w2.heap.size (.int .i64 size) (.slice ao2 n2 cap2) (.int .i64 (st + 1)) by subst hW3; exact Boxed.new _ _ _ _)
  have HZ4 := Lib.hid (show Boxed W3 (w.heap.size + 1 + 1) (.int .i64 0) (.slice none 0 0) (.int .i64 0) by subst hW3; exact HZ2.out.alloc _)
  have HW3 := Lib.hid hW3
  clear hW3
  have t0 := HZ3.out.c0
  have t1 := HZ3.out.c1
  have t2 := HZ3.out.c2
  have e0 := HZ4.out.c0
  have e1 := HZ4.out.c1
  have e2 := HZ4.out.c2
  have ef := HZ4.out.f
  go_wp2
  have Z := ((HZ4.out.set0 (.int .i64 size)).set1 (.slice ao2 n2 cap2)).set2 (.int .i64 (st + 1))
  refine bodyPost_ret (v := .tuple #[.agg #[.int .i64 size, .slice ao2 n2 cap2, .int .i64 (st + 1)], .bool true]) (by simp [results, Try.results22, go_sem, Z.c0, Z.c1, Z.c2]) rfl ?_
  rw [← HW3.out]
  exact stepped_end HH.out HB.out HM1.out HW1.out HL1.out HU.out HAP.out HL.out HY2.out (by omega) (by omega) _

set_option maxRecDepth 100000 in
set_option maxHeartbeats 4000000 in
theorem step2out (h : Mem w B p v size zs st) (hr : RefOk w B u zs v) (k n a o x : Int) (ha0 : 0 ≤ a) (ha1 : a ≤ 255) (hk0 : 0 ≤ k) (hk1 : k ≤ 255) (h5 : k % 5 = 2) (h0 : ((a - 2).tmod 24) < 0 ∨ zs.length ≤ ((a - 2).tmod 24)) (_ : 0 ≤ st) (_ : st < 1000000) :
    Calls Try.prog 22 #[.pointer (some ⟨p, 0, none⟩), .agg #[.int .i64 size, u, .int .i64 st], .agg #[.int .u8 k, .int .i64 n, .int .u8 a, .int .i64 o, .int .i64 x]] w (Stepped w B p v size st) := by
  obtain ⟨ao, cap, rfl⟩ := ownShape hr.1
  have hbase := h.base
  go_enter Try.func22, Try.ntmps22
  go_wp2_with fail
  generalize hW : ((w.alloc (.cells #[.int .i64 size, .slice ao zs.length cap, .int .i64 st] 49)).alloc (.cells #[.int .u8 k, .int .i64 n, .int .u8 a, .int .i64 o, .int .i64 x] 52)).alloc (.cells #[.int .i64 0, .slice none 0 0, .int .i64 0] 49) = W
  obtain ⟨X0, X1, X2, hb⟩ := begun3 w _ _ _ _ _ _ _ _ W hW
  clear hW
  have C := storeOut (h.fresh hb) ((a - 2).tmod 24) x h0
  have HH := Lib.hid h
  have HR := Lib.hid hr
  have HX0 := Lib.hid X0
  have HX1 := Lib.hid X1
  have HX2 := Lib.hid X2
  have HB := Lib.hid hb
  clear X0 X1 X2 hb h hr
  refine C.mono ?_
  clear C
  rintro e w1 ⟨rfl, v1, m1, wr1, l1⟩
  obtain ⟨Y0, Y1, Y2, hu, hap⟩ := kept1 HH.out HR.out HB.out HX0.out HX1.out HX2.out m1 wr1 l1
  have C := refStoreOut (size := size) (st := st) hu (Nat.le_trans hbase (Nat.le_trans HB.out.size wr1.size)) ((a - 2).tmod 24) x h0
  have d0 := Y0.c0
  have d1 := Y0.c1
  have d2 := Y0.c2
  have f1 := Y1.c1
  have f2 := Y1.c2
  have f3 := Y1.c3
  have f4 := Y1.c4
  have HM1 := Lib.hid m1
  have HW1 := Lib.hid wr1
  have HL1 := Lib.hid l1
  have HU := Lib.hid hu
  have HAP := Lib.hid hap
  have HY2 := Lib.hid Y2
  clear m1 wr1 l1 hu hap Y0 Y1 Y2
  go_wp2_with fail
  refine C.mono ?_
  clear C
  rintro e w2 ⟨u2, rfl, hl⟩
  obtain ⟨ao2, n2, cap2, rfl⟩ := ownShape' hl.1
  have HL := Lib.hid hl
  have Z2 := HY2.out.keep hl.2.2
  have HZ2 := Lib.hid Z2
  clear hl Z2
  go_upto_region 14 with (fail)
  generalize hW3 : w2.alloc (.cells #[.int .i64 size, .slice ao2 n2 cap2, .int .i64 (st)] 49) = W3
  have HZ3 := Lib.hid (show Boxed W3 w2.heap.size (.int .i64 size) (.slice ao2 n2 cap2) (.int .i64 (st)) by subst hW3; exact Boxed.new _ _ _ _)
  have HZ4 := Lib.hid (show Boxed W3 (w.heap.size + 1 + 1) (.int .i64 0) (.slice none 0 0) (.int .i64 0) by subst hW3; exact HZ2.out.alloc _)
  have HW3 := Lib.hid hW3
  clear hW3
  have t0 := HZ3.out.c0
  have t1 := HZ3.out.c1
  have t2 := HZ3.out.c2
  have e0 := HZ4.out.c0
  have e1 := HZ4.out.c1
  have e2 := HZ4.out.c2
  have ef := HZ4.out.f
  go_wp2
  have Z := ((HZ4.out.set0 (.int .i64 size)).set1 (.slice ao2 n2 cap2)).set2 (.int .i64 (st))
  refine bodyPost_ret (v := .tuple #[.agg #[.int .i64 size, .slice ao2 n2 cap2, .int .i64 (st)], .bool true]) (by simp [results, Try.results22, go_sem, Z.c0, Z.c1, Z.c2]) rfl ?_
  rw [← HW3.out]
  exact stepped_end HH.out HB.out HM1.out HW1.out HL1.out HU.out HAP.out HL.out HY2.out (by omega) (by omega) _

set_option maxRecDepth 100000 in
set_option maxHeartbeats 4000000 in
theorem step3eq (h : Mem w B p v size zs st) (hr : RefOk w B u zs v) (k n a o x : Int) (ha0 : 0 ≤ a) (ha1 : a ≤ 255) (hk0 : 0 ≤ k) (hk1 : k ≤ 255) (h5 : k % 5 = 3) (hx : ¬ x.tmod 2 = 0) (h0 : 0 ≤ ((a - 2).tmod 24)) (h1 : ((a - 2).tmod 24) < zs.length) (ho : zs.getD ((a - 2).tmod 24).toNat 0 = o) (k0 : 0 ≤ st) (k1 : st < 1000000) :
    Calls Try.prog 22 #[.pointer (some ⟨p, 0, none⟩), .agg #[.int .i64 size, u, .int .i64 st], .agg #[.int .u8 k, .int .i64 n, .int .u8 a, .int .i64 o, .int .i64 x]] w (Stepped w B p v size st) := by
  obtain ⟨ao, cap, rfl⟩ := ownShape hr.1
  have hbase := h.base
  have s1 := h.s1
  have s2 := h.room
  go_enter Try.func22, Try.ntmps22
  go_wp2_with fail
  generalize hW : ((w.alloc (.cells #[.int .i64 size, .slice ao zs.length cap, .int .i64 st] 49)).alloc (.cells #[.int .u8 k, .int .i64 n, .int .u8 a, .int .i64 o, .int .i64 x] 52)).alloc (.cells #[.int .i64 0, .slice none 0 0, .int .i64 0] 49) = W
  obtain ⟨X0, X1, X2, hb⟩ := begun3 w _ _ _ _ _ _ _ _ W hW
  clear hW
  have C := swapIn (h.fresh hb) ((a - 2).tmod 24) o x h0 h1 ho k0 k1
  have HH := Lib.hid h
  have HR := Lib.hid hr
  have HX0 := Lib.hid X0
  have HX1 := Lib.hid X1
  have HX2 := Lib.hid X2
  have HB := Lib.hid hb
  clear X0 X1 X2 hb h hr
  refine C.mono ?_
  clear C
  rintro e w1 ⟨rfl, v1, m1, wr1, l1⟩
  obtain ⟨Y0, Y1, Y2, hu, hap⟩ := kept1 HH.out HR.out HB.out HX0.out HX1.out HX2.out m1 wr1 l1
  have C := refSwapIn (size := size) (st := st) hu (Nat.le_trans hbase (Nat.le_trans HB.out.size wr1.size)) ((a - 2).tmod 24) o x h0 h1 ho (by have := s1; have := s2; omega) k0 k1
  have d0 := Y0.c0
  have d1 := Y0.c1
  have d2 := Y0.c2
  have f1 := Y1.c1
  have f2 := Y1.c2
  have f3 := Y1.c3
  have f4 := Y1.c4
  have HM1 := Lib.hid m1
  have HW1 := Lib.hid wr1
  have HL1 := Lib.hid l1
  have HU := Lib.hid hu
  have HAP := Lib.hid hap
  have HY2 := Lib.hid Y2
  clear m1 wr1 l1 hu hap Y0 Y1 Y2
  go_wp2_with fail
  refine C.mono ?_
  clear C
  rintro e w2 ⟨u2, rfl, hl⟩
  obtain ⟨ao2, n2, cap2, rfl⟩ := ownShape' hl.1
  have HL := Lib.hid hl
  have Z2 := HY2.out.keep hl.2.2
  have HZ2 := Lib.hid Z2
  clear hl Z2
  go_upto_region 21 with (fail)
  generalize hW3 : w2.alloc (.cells #[.int .i64 size, .slice ao2 n2 cap2, .int .i64 (st + 1)] 49) = W3
  have HZ3 := Lib.hid (show Boxed W3 w2.heap.size (.int .i64 size) (.slice ao2 n2 cap2) (.int .i64 (st + 1)) by subst hW3; exact Boxed.new _ _ _ _)
  have HZ4 := Lib.hid (show Boxed W3 (w.heap.size + 1 + 1) (.int .i64 0) (.slice none 0 0) (.int .i64 0) by subst hW3; exact HZ2.out.alloc _)
  have HW3 := Lib.hid hW3
  clear hW3
  have t0 := HZ3.out.c0
  have t1 := HZ3.out.c1
  have t2 := HZ3.out.c2
  have e0 := HZ4.out.c0
  have e1 := HZ4.out.c1
  have e2 := HZ4.out.c2
  have ef := HZ4.out.f
  go_wp2
  have Z := ((HZ4.out.set0 (.int .i64 size)).set1 (.slice ao2 n2 cap2)).set2 (.int .i64 (st + 1))
  refine bodyPost_ret (v := .tuple #[.agg #[.int .i64 size, .slice ao2 n2 cap2, .int .i64 (st + 1)], .bool true]) (by simp [results, Try.results22, go_sem, Z.c0, Z.c1, Z.c2]) rfl ?_
  rw [← HW3.out]
  exact stepped_end HH.out HB.out HM1.out HW1.out HL1.out HU.out HAP.out HL.out HY2.out (by omega) (by omega) _

set_option maxRecDepth 100000 in
set_option maxHeartbeats 4000000 in
theorem step3ne (h : Mem w B p v size zs st) (hr : RefOk w B u zs v) (k n a o x : Int) (ha0 : 0 ≤ a) (ha1 : a ≤ 255) (hk0 : 0 ≤ k) (hk1 : k ≤ 255) (h5 : k % 5 = 3) (hx : ¬ x.tmod 2 = 0) (h0 : 0 ≤ ((a - 2).tmod 24)) (h1 : ((a - 2).tmod 24) < zs.length) (ho : zs.getD ((a - 2).tmod 24).toNat 0 ≠ o) (k0 : 0 ≤ st) (k1 : st < 1000000) :
    Calls Try.prog 22 #[.pointer (some ⟨p, 0, none⟩), .agg #[.int .i64 size, u, .int .i64 st], .agg #[.int .u8 k, .int .i64 n, .int .u8 a, .int .i64 o, .int .i64 x]] w (Stepped w B p v size st) := by
  obtain ⟨ao, cap, rfl⟩ := ownShape hr.1
  have hbase := h.base
  have s1 := h.s1
  have s2 := h.room
  go_enter Try.func22, Try.ntmps22
  go_wp2_with fail
  generalize hW : ((w.alloc (.cells #[.int .i64 size, .slice ao zs.length cap, .int .i64 st] 49)).alloc (.cells #[.int .u8 k, .int .i64 n, .int .u8 a, .int .i64 o, .int .i64 x] 52)).alloc (.cells #[.int .i64 0, .slice none 0 0, .int .i64 0] 49) = W
  obtain ⟨X0, X1, X2, hb⟩ := begun3 w _ _ _ _ _ _ _ _ W hW
  clear hW
  have C := swapNo (h.fresh hb) ((a - 2).tmod 24) o x h0 h1 ho k0 k1
  have HH := Lib.hid h
  have HR := Lib.hid hr
  have HX0 := Lib.hid X0
  have HX1 := Lib.hid X1
  have HX2 := Lib.hid X2
  have HB := Lib.hid hb
  clear X0 X1 X2 hb h hr
  refine C.mono ?_
  clear C
  rintro e w1 ⟨rfl, v1, m1, wr1, l1⟩
  obtain ⟨Y0, Y1, Y2, hu, hap⟩ := kept1 HH.out HR.out HB.out HX0.out HX1.out HX2.out m1 wr1 l1
  have C := refSwapNo (size := size) (st := st) hu (Nat.le_trans hbase (Nat.le_trans HB.out.size wr1.size)) ((a - 2).tmod 24) o x h0 h1 ho (by have := s1; have := s2; omega) k0 k1
  have d0 := Y0.c0
  have d1 := Y0.c1
  have d2 := Y0.c2
  have f1 := Y1.c1
  have f2 := Y1.c2
  have f3 := Y1.c3
  have f4 := Y1.c4
  have HM1 := Lib.hid m1
  have HW1 := Lib.hid wr1
  have HL1 := Lib.hid l1
  have HU := Lib.hid hu
  have HAP := Lib.hid hap
  have HY2 := Lib.hid Y2
  clear m1 wr1 l1 hu hap Y0 Y1 Y2
  go_wp2_with fail
  refine C.mono ?_
  clear C
  rintro e w2 ⟨u2, rfl, hl⟩
  obtain ⟨ao2, n2, cap2, rfl⟩ := ownShape' hl.1
  have HL := Lib.hid hl
  have Z2 := HY2.out.keep hl.2.2
  have HZ2 := Lib.hid Z2
  clear hl Z2
  go_upto_region 21 with (fail)
  generalize hW3 : w2.alloc (.cells #[.int .i64 size, .slice ao2 n2 cap2, .int .i64 (st + 1)] 49) = W3
  have HZ3 := Lib.hid (show Boxed W3 w2.heap.size (.int .i64 size) (.slice ao2 n2 cap2) (.int .i64 (st + 1)) by subst hW3; exact Boxed.new _ _ _ _)
  have HZ4 := Lib.hid (show Boxed W3 (w.heap.size + 1 + 1) (.int .i64 0) (.slice none 0 0) (.int .i64 0) by subst hW3; exact HZ2.out.alloc _)
  have HW3 := Lib.hid hW3
  clear hW3
  have t0 := HZ3.out.c0
  have t1 := HZ3.out.c1
  have t2 := HZ3.out.c2
  have e0 := HZ4.out.c0
  have e1 := HZ4.out.c1
  have e2 := HZ4.out.c2
  have ef := HZ4.out.f
  go_wp2
  have Z := ((HZ4.out.set0 (.int .i64 size)).set1 (.slice ao2 n2 cap2)).set2 (.int .i64 (st + 1))
  refine bodyPost_ret (v := .tuple #[.agg #[.int .i64 size, .slice ao2 n2 cap2, .int .i64 (st + 1)], .bool true]) (by simp [results, Try.results22, go_sem, Z.c0, Z.c1, Z.c2]) rfl ?_
  rw [← HW3.out]
  exact stepped_end HH.out HB.out HM1.out HW1.out HL1.out HU.out HAP.out HL.out HY2.out (by omega) (by omega) _

set_option maxRecDepth 100000 in
set_option maxHeartbeats 4000000 in
theorem step3out (h : Mem w B p v size zs st) (hr : RefOk w B u zs v) (k n a o x : Int) (ha0 : 0 ≤ a) (ha1 : a ≤ 255) (hk0 : 0 ≤ k) (hk1 : k ≤ 255) (h5 : k % 5 = 3) (hx : ¬ x.tmod 2 = 0) (h0 : ((a - 2).tmod 24) < 0 ∨ zs.length ≤ ((a - 2).tmod 24)) (_ : 0 ≤ st) (_ : st < 1000000) :
    Calls Try.prog 22 #[.pointer (some ⟨p, 0, none⟩), .agg #[.int .i64 size, u, .int .i64 st], .agg #[.int .u8 k, .int .i64 n, .int .u8 a, .int .i64 o, .int .i64 x]] w (Stepped w B p v size st) := by
  obtain ⟨ao, cap, rfl⟩ := ownShape hr.1
  have hbase := h.base
  go_enter Try.func22, Try.ntmps22
  go_wp2_with fail
  generalize hW : ((w.alloc (.cells #[.int .i64 size, .slice ao zs.length cap, .int .i64 st] 49)).alloc (.cells #[.int .u8 k, .int .i64 n, .int .u8 a, .int .i64 o, .int .i64 x] 52)).alloc (.cells #[.int .i64 0, .slice none 0 0, .int .i64 0] 49) = W
  obtain ⟨X0, X1, X2, hb⟩ := begun3 w _ _ _ _ _ _ _ _ W hW
  clear hW
  have C := swapOut (h.fresh hb) ((a - 2).tmod 24) o x h0
  have HH := Lib.hid h
  have HR := Lib.hid hr
  have HX0 := Lib.hid X0
  have HX1 := Lib.hid X1
  have HX2 := Lib.hid X2
  have HB := Lib.hid hb
  clear X0 X1 X2 hb h hr
  refine C.mono ?_
  clear C
  rintro e w1 ⟨rfl, v1, m1, wr1, l1⟩
  obtain ⟨Y0, Y1, Y2, hu, hap⟩ := kept1 HH.out HR.out HB.out HX0.out HX1.out HX2.out m1 wr1 l1
  have C := refSwapOut (size := size) (st := st) hu (Nat.le_trans hbase (Nat.le_trans HB.out.size wr1.size)) ((a - 2).tmod 24) o x h0
  have d0 := Y0.c0
  have d1 := Y0.c1
  have d2 := Y0.c2
  have f1 := Y1.c1
  have f2 := Y1.c2
  have f3 := Y1.c3
  have f4 := Y1.c4
  have HM1 := Lib.hid m1
  have HW1 := Lib.hid wr1
  have HL1 := Lib.hid l1
  have HU := Lib.hid hu
  have HAP := Lib.hid hap
  have HY2 := Lib.hid Y2
  clear m1 wr1 l1 hu hap Y0 Y1 Y2
  go_wp2_with fail
  refine C.mono ?_
  clear C
  rintro e w2 ⟨u2, rfl, hl⟩
  obtain ⟨ao2, n2, cap2, rfl⟩ := ownShape' hl.1
  have HL := Lib.hid hl
  have Z2 := HY2.out.keep hl.2.2
  have HZ2 := Lib.hid Z2
  clear hl Z2
  go_upto_region 21 with (fail)
  generalize hW3 : w2.alloc (.cells #[.int .i64 size, .slice ao2 n2 cap2, .int .i64 (st)] 49) = W3
  have HZ3 := Lib.hid (show Boxed W3 w2.heap.size (.int .i64 size) (.slice ao2 n2 cap2) (.int .i64 (st)) by subst hW3; exact Boxed.new _ _ _ _)
  have HZ4 := Lib.hid (show Boxed W3 (w.heap.size + 1 + 1) (.int .i64 0) (.slice none 0 0) (.int .i64 0) by subst hW3; exact HZ2.out.alloc _)
  have HW3 := Lib.hid hW3
  clear hW3
  have t0 := HZ3.out.c0
  have t1 := HZ3.out.c1
  have t2 := HZ3.out.c2
  have e0 := HZ4.out.c0
  have e1 := HZ4.out.c1
  have e2 := HZ4.out.c2
  have ef := HZ4.out.f
  go_wp2
  have Z := ((HZ4.out.set0 (.int .i64 size)).set1 (.slice ao2 n2 cap2)).set2 (.int .i64 (st))
  refine bodyPost_ret (v := .tuple #[.agg #[.int .i64 size, .slice ao2 n2 cap2, .int .i64 (st)], .bool true]) (by simp [results, Try.results22, go_sem, Z.c0, Z.c1, Z.c2]) rfl ?_
  rw [← HW3.out]
  exact stepped_end HH.out HB.out HM1.out HW1.out HL1.out HU.out HAP.out HL.out HY2.out (by omega) (by omega) _

set_option maxRecDepth 100000 in
set_option maxHeartbeats 4000000 in
theorem step3atin (h : Mem w B p v size zs st) (hr : RefOk w B u zs v) (k n a o x : Int) (ha0 : 0 ≤ a) (ha1 : a ≤ 255) (hk0 : 0 ≤ k) (hk1 : k ≤ 255) (h5 : k % 5 = 3) (hx : x.tmod 2 = 0) (h0 : 0 ≤ ((a - 2).tmod 24)) (h1 : ((a - 2).tmod 24) < zs.length) (k0 : 0 ≤ st) (k1 : st < 1000000) :
    Calls Try.prog 22 #[.pointer (some ⟨p, 0, none⟩), .agg #[.int .i64 size, u, .int .i64 st], .agg #[.int .u8 k, .int .i64 n, .int .u8 a, .int .i64 o, .int .i64 x]] w (Stepped w B p v size st) := by
  obtain ⟨ao, cap, rfl⟩ := ownShape hr.1
  have hbase := h.base
  have s1 := h.s1
  have s2 := h.room
  obtain ⟨y, hy⟩ : ∃ y, zs.getD ((a - 2).tmod 24).toNat 0 = y := ⟨_, rfl⟩
  go_enter Try.func22, Try.ntmps22
  go_wp2_with fail
  generalize hW : ((w.alloc (.cells #[.int .i64 size, .slice ao zs.length cap, .int .i64 st] 49)).alloc (.cells #[.int .u8 k, .int .i64 n, .int .u8 a, .int .i64 o, .int .i64 x] 52)).alloc (.cells #[.int .i64 0, .slice none 0 0, .int .i64 0] 49) = W
  obtain ⟨X0, X1, X2, hb⟩ := begun3 w _ _ _ _ _ _ _ _ W hW
  clear hW
  have CA := refAtIn (size := size) (st := st) (own_keep hr.1 hb) ((a - 2).tmod 24) h0 h1
  rw [hy] at CA
  refine (CA).mono ?_
  rintro e W' ⟨rfl, bA⟩
  have X0' := X0.keep bA
  have X1' : Deeded W' (w.heap.size + 1) k n a o x := (bA.block _ X1.lt).trans X1
  have X2' := X2.keep bA
  have hb' := hb.trans (bA.mono hb.size)
  clear X0 X1 X2 hb bA CA
  have q4 := X1'.c4
  have HX0' := Lib.hid X0'
  have HX1' := Lib.hid X1'
  have HX2' := Lib.hid X2'
  have HB' := Lib.hid hb'
  clear X0' X1' X2' hb'
  go_wp2_with fail
  have X0 := HX0'.out
  have X1 := HX1'.out
  have X2 := HX2'.out
  have hb := HB'.out
  have C := swapIn (h.fresh hb) ((a - 2).tmod 24) y x h0 h1 hy k0 k1
  have HH := Lib.hid h
  have HR := Lib.hid hr
  have HX0 := Lib.hid X0
  have HX1 := Lib.hid X1
  have HX2 := Lib.hid X2
  have HB := Lib.hid hb
  clear X0 X1 X2 hb h hr
  refine C.mono ?_
  clear C
  rintro e w1 ⟨rfl, v1, m1, wr1, l1⟩
  obtain ⟨Y0, Y1, Y2, hu, hap⟩ := kept1 HH.out HR.out HB.out HX0.out HX1.out HX2.out m1 wr1 l1
  have C := refSwapIn (size := size) (st := st) hu (Nat.le_trans hbase (Nat.le_trans HB.out.size wr1.size)) ((a - 2).tmod 24) y x h0 h1 hy (by have := s1; have := s2; omega) k0 k1
  have d0 := Y0.c0
  have d1 := Y0.c1
  have d2 := Y0.c2
  have f1 := Y1.c1
  have f2 := Y1.c2
  have f3 := Y1.c3
  have f4 := Y1.c4
  have HM1 := Lib.hid m1
  have HW1 := Lib.hid wr1
  have HL1 := Lib.hid l1
  have HU := Lib.hid hu
  have HAP := Lib.hid hap
  have HY2 := Lib.hid Y2
  clear m1 wr1 l1 hu hap Y0 Y1 Y2
  go_wp2_with fail
  refine C.mono ?_
  clear C
  rintro e w2 ⟨u2, rfl, hl⟩
  obtain ⟨ao2, n2, cap2, rfl⟩ := ownShape' hl.1
  have HL := Lib.hid hl
  have Z2 := HY2.out.keep hl.2.2
  have HZ2 := Lib.hid Z2
  clear hl Z2
  go_upto_region 21 with (fail)
  generalize hW3 : w2.alloc (.cells #[.int .i64 size, .slice ao2 n2 cap2, .int .i64 (st + 1)] 49) = W3
  have HZ3 := Lib.hid (show Boxed W3 w2.heap.size (.int .i64 size) (.slice ao2 n2 cap2) (.int .i64 (st + 1)) by subst hW3; exact Boxed.new _ _ _ _)
  have HZ4 := Lib.hid (show Boxed W3 (w.heap.size + 1 + 1) (.int .i64 0) (.slice none 0 0) (.int .i64 0) by subst hW3; exact HZ2.out.alloc _)
  have HW3 := Lib.hid hW3
  clear hW3
  have t0 := HZ3.out.c0
  have t1 := HZ3.out.c1
  have t2 := HZ3.out.c2
  have e0 := HZ4.out.c0
  have e1 := HZ4.out.c1
  have e2 := HZ4.out.c2
  have ef := HZ4.out.f
  go_wp2
  have Z := ((HZ4.out.set0 (.int .i64 size)).set1 (.slice ao2 n2 cap2)).set2 (.int .i64 (st + 1))
  refine bodyPost_ret (v := .tuple #[.agg #[.int .i64 size, .slice ao2 n2 cap2, .int .i64 (st + 1)], .bool true]) (by simp [results, Try.results22, go_sem, Z.c0, Z.c1, Z.c2]) rfl ?_
  rw [← HW3.out]
  exact stepped_end HH.out HB.out HM1.out HW1.out HL1.out HU.out HAP.out HL.out HY2.out (by omega) (by omega) _

set_option maxRecDepth 100000 in
set_option maxHeartbeats 4000000 in
theorem step3atout (h : Mem w B p v size zs st) (hr : RefOk w B u zs v) (k n a o x : Int) (ha0 : 0 ≤ a) (ha1 : a ≤ 255) (hk0 : 0 ≤ k) (hk1 : k ≤ 255) (h5 : k % 5 = 3) (hx : x.tmod 2 = 0) (h0 : ((a - 2).tmod 24) < 0 ∨ zs.length ≤ ((a - 2).tmod 24)) (_ : 0 ≤ st) (_ : st < 1000000) :
    Calls Try.prog 22 #[.pointer (some ⟨p, 0, none⟩), .agg #[.int .i64 size, u, .int .i64 st], .agg #[.int .u8 k, .int .i64 n, .int .u8 a, .int .i64 o, .int .i64 x]] w (Stepped w B p v size st) := by
  obtain ⟨ao, cap, rfl⟩ := ownShape hr.1
  have hbase := h.base
  go_enter Try.func22, Try.ntmps22
  go_wp2_with fail
  generalize hW : ((w.alloc (.cells #[.int .i64 size, .slice ao zs.length cap, .int .i64 st] 49)).alloc (.cells #[.int .u8 k, .int .i64 n, .int .u8 a, .int .i64 o, .int .i64 x] 52)).alloc (.cells #[.int .i64 0, .slice none 0 0, .int .i64 0] 49) = W
  obtain ⟨X0, X1, X2, hb⟩ := begun3 w _ _ _ _ _ _ _ _ W hW
  clear hW
  refine (refAtOut (size := size) (st := st) (own_keep hr.1 hb) ((a - 2).tmod 24) h0).mono ?_
  rintro e W' ⟨rfl, bA⟩
  have X0' := X0.keep bA
  have X1' : Deeded W' (w.heap.size + 1) k n a o x := (bA.block _ X1.lt).trans X1
  have X2' := X2.keep bA
  have hb' := hb.trans (bA.mono hb.size)
  clear X0 X1 X2 hb bA
  have q4 := X1'.c4
  have HX0' := Lib.hid X0'
  have HX1' := Lib.hid X1'
  have HX2' := Lib.hid X2'
  have HB' := Lib.hid hb'
  clear X0' X1' X2' hb'
  go_wp2_with fail
  have X0 := HX0'.out
  have X1 := HX1'.out
  have X2 := HX2'.out
  have hb := HB'.out
  have C := swapOut (h.fresh hb) ((a - 2).tmod 24) 0 x h0
  have HH := Lib.hid h
  have HR := Lib.hid hr
  have HX0 := Lib.hid X0
  have HX1 := Lib.hid X1
  have HX2 := Lib.hid X2
  have HB := Lib.hid hb
  clear X0 X1 X2 hb h hr
  refine C.mono ?_
  clear C
  rintro e w1 ⟨rfl, v1, m1, wr1, l1⟩
  obtain ⟨Y0, Y1, Y2, hu, hap⟩ := kept1 HH.out HR.out HB.out HX0.out HX1.out HX2.out m1 wr1 l1
  have C := refSwapOut (size := size) (st := st) hu (Nat.le_trans hbase (Nat.le_trans HB.out.size wr1.size)) ((a - 2).tmod 24) 0 x h0
  have d0 := Y0.c0
  have d1 := Y0.c1
  have d2 := Y0.c2
  have f1 := Y1.c1
  have f2 := Y1.c2
  have f3 := Y1.c3
  have f4 := Y1.c4
  have HM1 := Lib.hid m1
  have HW1 := Lib.hid wr1
  have HL1 := Lib.hid l1
  have HU := Lib.hid hu
  have HAP := Lib.hid hap
  have HY2 := Lib.hid Y2
  clear m1 wr1 l1 hu hap Y0 Y1 Y2
  go_wp2_with fail
  refine C.mono ?_
  clear C
  rintro e w2 ⟨u2, rfl, hl⟩
  obtain ⟨ao2, n2, cap2, rfl⟩ := ownShape' hl.1
  have HL := Lib.hid hl
  have Z2 := HY2.out.keep hl.2.2
  have HZ2 := Lib.hid Z2
  clear hl Z2
  go_upto_region 21 with (fail)
  generalize hW3 : w2.alloc (.cells #[.int .i64 size, .slice ao2 n2 cap2, .int .i64 (st)] 49) = W3
  have HZ3 := Lib.hid (show Boxed W3 w2.heap.size (.int .i64 size) (.slice ao2 n2 cap2) (.int .i64 (st)) by subst hW3; exact Boxed.new _ _ _ _)
  have HZ4 := Lib.hid (show Boxed W3 (w.heap.size + 1 + 1) (.int .i64 0) (.slice none 0 0) (.int .i64 0) by subst hW3; exact HZ2.out.alloc _)
  have HW3 := Lib.hid hW3
  clear hW3
  have t0 := HZ3.out.c0
  have t1 := HZ3.out.c1
  have t2 := HZ3.out.c2
  have e0 := HZ4.out.c0
  have e1 := HZ4.out.c1
  have e2 := HZ4.out.c2
  have ef := HZ4.out.f
  go_wp2
  have Z := ((HZ4.out.set0 (.int .i64 size)).set1 (.slice ao2 n2 cap2)).set2 (.int .i64 (st))
  refine bodyPost_ret (v := .tuple #[.agg #[.int .i64 size, .slice ao2 n2 cap2, .int .i64 (st)], .bool true]) (by simp [results, Try.results22, go_sem, Z.c0, Z.c1, Z.c2]) rfl ?_
  rw [← HW3.out]
  exact stepped_end HH.out HB.out HM1.out HW1.out HL1.out HU.out HAP.out HL.out HY2.out (by omega) (by omega) _

set_option maxRecDepth 100000 in
set_option maxHeartbeats 4000000 in
theorem step4 (h : Mem w B p v size zs st) (hr : RefOk w B u zs v) (k n a o x : Int) (ha0 : 0 ≤ a) (ha1 : a ≤ 255) (hk0 : 0 ≤ k) (hk1 : k ≤ 255) (h5 : k % 5 = 4) (_ : 0 ≤ st) (_ : st < 1000000) :
    Calls Try.prog 22 #[.pointer (some ⟨p, 0, none⟩), .agg #[.int .i64 size, u, .int .i64 st], .agg #[.int .u8 k, .int .i64 n, .int .u8 a, .int .i64 o, .int .i64 x]] w (Stepped w B p v size st) := by
  obtain ⟨ao, cap, rfl⟩ := ownShape hr.1
  have hbase := h.base
  have HH := Lib.hid h
  have HR := Lib.hid hr
  clear h hr
  go_enter Try.func22, Try.ntmps22
  go_wp2
  generalize hW : ((w.alloc (.cells #[.int .i64 size, .slice ao zs.length cap, .int .i64 st] 49)).alloc (.cells #[.int .u8 k, .int .i64 n, .int .u8 a, .int .i64 o, .int .i64 x] 52)).alloc (.cells #[.int .i64 size, .slice ao zs.length cap, .int .i64 st] 49) = W
  have Z : Boxed W (w.heap.size + 1 + 1) (.int .i64 size) (.slice ao zs.length cap) (.int .i64 st) := by
    subst hW
    have := Boxed.new ((w.alloc (.cells #[.int .i64 size, .slice ao zs.length cap, .int .i64 st] 49)).alloc (.cells #[.int .u8 k, .int .i64 n, .int .u8 a, .int .i64 o, .int .i64 x] 52)) (.int .i64 size) (.slice ao zs.length cap) (.int .i64 st)
    simpa using this
  have hb : Below w.heap.size w W := by subst hW; exact (((Below.refl _ _).alloc (Nat.le_refl _) _).alloc (by simp) _).alloc (by simp; omega) _
  clear hW
  refine bodyPost_ret (v := .tuple #[.agg #[.int .i64 size, .slice ao zs.length cap, .int .i64 st], .bool true]) (by simp [results, Try.results22, go_sem, Z.c0, Z.c1, Z.c2]) rfl ?_
  exact ⟨v, zs, st, _, rfl, HH.out.fresh hb, ⟨own_keep HR.out.1 hb, HR.out.2⟩, by omega, by omega, Below.wrote hb p v, Later.refl _ _⟩

theorem stepAny (h : Mem w B p v size zs st) (hr : RefOk w B u zs v) (k n a o x : Int) (ha0 : 0 ≤ a) (ha1 : a ≤ 255) (hk0 : 0 ≤ k) (hk1 : k ≤ 255) (k0 : 0 ≤ st) (k1 : st < 1000000) :
    Calls Try.prog 22 #[.pointer (some ⟨p, 0, none⟩), .agg #[.int .i64 size, u, .int .i64 st], .agg #[.int .u8 k, .int .i64 n, .int .u8 a, .int .i64 o, .int .i64 x]] w (Stepped w B p v size st) := by
  have hq : (0 ≤ (a - 2).tmod 24 ∧ (a - 2).tmod 24 < zs.length) ∨ ((a - 2).tmod 24 < 0 ∨ (zs.length : Int) ≤ (a - 2).tmod 24) := by omega
  rcases (show k % 5 = 0 ∨ k % 5 = 1 ∨ k % 5 = 2 ∨ k % 5 = 3 ∨ k % 5 = 4 from by omega) with h5 | h5 | h5 | h5 | h5
  · rcases (show n < 0 ∨ (0 ≤ n ∧ size - zs.length < n) ∨ (0 ≤ n ∧ n ≤ size - zs.length) from by omega) with hn | ⟨hn, hn1⟩ | ⟨hn, hn1⟩
    · exact step0neg h hr k n a o x ha0 ha1 hk0 hk1 h5 hn k0 k1
    · exact step0full h hr k n a o x ha0 ha1 hk0 hk1 h5 hn hn1 k0 k1
    · exact step0ok h hr k n a o x ha0 ha1 hk0 hk1 h5 hn hn1 k0 k1
  · rcases hq with ⟨h0, h1⟩ | h0
    · exact step1in h hr k n a o x ha0 ha1 hk0 hk1 h5 h0 h1 k0 k1
    · exact step1out h hr k n a o x ha0 ha1 hk0 hk1 h5 h0 k0 k1
  · rcases hq with ⟨h0, h1⟩ | h0
    · exact step2in h hr k n a o x ha0 ha1 hk0 hk1 h5 h0 h1 k0 k1
    · exact step2out h hr k n a o x ha0 ha1 hk0 hk1 h5 h0 k0 k1
  · by_cases hx : x.tmod 2 = 0
    · rcases hq with ⟨h0, h1⟩ | h0
      · exact step3atin h hr k n a o x ha0 ha1 hk0 hk1 h5 hx h0 h1 k0 k1
      · exact step3atout h hr k n a o x ha0 ha1 hk0 hk1 h5 hx h0 k0 k1
    · rcases hq with ⟨h0, h1⟩ | h0
      · by_cases ho : zs.getD ((a - 2).tmod 24).toNat 0 = o
        · exact step3eq h hr k n a o x ha0 ha1 hk0 hk1 h5 hx h0 h1 ho k0 k1
        · exact step3ne h hr k n a o x ha0 ha1 hk0 hk1 h5 hx h0 h1 ho k0 k1
      · exact step3out h hr k n a o x ha0 ha1 hk0 hk1 h5 hx h0 k0 k1
  · exact step4 h hr k n a o x ha0 ha1 hk0 hk1 h5 k0 k1

end

end Go.Proofs.Yteebmcldmiemnaa
