/-
  Tame of reaperlaw15: whatever thread it is handed, it tells one whose record is an address that may be added to. Conditions: none.
-/
import Derived.Test.YthefdglocnalhaaThrG15
namespace Go.Proofs.Ythefdglocnalhaa.M2
open Go.RowKit

/-- What it tells. -/
def TamePost (w : World) (q : Int) (b : Value) (e : Ending) (w' : World) : Prop := ∃ t', e = .returned (thV t' b) ∧ t'.rc = 3 + 5 * (q % 7) ∧ Below w.heap.size w w'

set_option maxRecDepth 100000 in
set_option maxHeartbeats 16000000 in
theorem tameAny (w : World) (t : Th) (ao : Option Addr) (n cap : Nat) (q : Int) (h0 : 0 ≤ q) (h1 : q ≤ 255) :
    Calls Try.prog 12 #[thV t (.slice ao n cap), .int .u8 q] w (TamePost w q (.slice ao n cap)) := by
  rw [show thV t (.slice ao n cap) = .agg #[.int .i64 t.ti, .int .i64 t.pc, .int .i64 t.rc, .int .i64 t.sq, .int .i64 t.wo, .int .i64 t.lk, .int .i64 t.cu, .int .i64 t.pv, .int .i64 t.nt, .int .i64 t.mx, .int .i64 t.ps, .int .i64 t.rn, .slice ao n cap] from rfl]
  go_enter Try.func12, Try.ntmps12
  go_upto_region 1 with (fail)
  generalize hW : (w.alloc (.cells #[.int .i64 t.ti, .int .i64 t.pc, .int .i64 t.rc, .int .i64 t.sq, .int .i64 t.wo, .int .i64 t.lk, .int .i64 t.cu, .int .i64 t.pv, .int .i64 t.nt, .int .i64 t.mx, .int .i64 t.ps, .int .i64 t.rn, .slice ao n cap] 25)).alloc (.cells #[.int .i64 0, .int .i64 0, .int .i64 0, .int .i64 0, .int .i64 0, .int .i64 0, .int .i64 0, .int .i64 0, .int .i64 0, .int .i64 0, .int .i64 0, .int .i64 0, .slice none 0 0] 25) = W0
  have HB := Lib.hid (show Below w.heap.size w W0 by subst hW; exact ((Below.refl _ _).alloc (Nat.le_refl _) _).alloc (by simp) _)
  have HY := Lib.hid (show TX W0 (w.heap.size + 1) t0 (.slice none 0 0) by
    subst hW
    have := TX.new (w.alloc (.cells #[.int .i64 t.ti, .int .i64 t.pc, .int .i64 t.rc, .int .i64 t.sq, .int .i64 t.wo, .int .i64 t.lk, .int .i64 t.cu, .int .i64 t.pv, .int .i64 t.nt, .int .i64 t.mx, .int .i64 t.ps, .int .i64 t.rn, .slice ao n cap] 25)) t0 (.slice none 0 0)
    simpa [t0] using this)
  have HX0 := Lib.hid (show TX W0 w.heap.size t (.slice ao n cap) by subst hW; exact (TX.new w t _).alloc _)
  clear hW
  obtain ⟨g, hg⟩ : ∃ g, w.heap.size = g := ⟨_, rfl⟩
  have HG := Lib.hid hg
  rw [hg] at HX0 HY
  rw [hg]
  clear hg
  have x := HX0.out
  have x1 := x.c1
  have xf := x.f
  clear x
  go_upto_region 2 with (fail)
  generalize hV : World.setCell W0 ⟨g, 1, none⟩ (.int .i64 _) = W1
  obtain ⟨T1, hx, hr⟩ : ∃ T', TX W1 g T' (.slice ao n cap) ∧ T'.rc = t.rc := by subst hV; exact ⟨_, HX0.out.s1 _, rfl⟩
  have HX1 := Lib.hid hx
  have HRC1 := Lib.hid hr
  have HY := Lib.hid (show TX W1 (g + 1) t0 (.slice none 0 0) by subst hV; exact HY.out.other (by simp) _)
  have HB := Lib.hid (show Below w.heap.size w W1 by subst hV; exact HB.out.setCell (by simp [HG.out]) _)
  clear hV hx hr x1 xf
  have x := HX1.out
  have x2 := x.c2
  have xf := x.f
  clear x
  go_upto_region 3 with (fail)
  generalize hV : World.setCell W1 ⟨g, 2, none⟩ (.int .i64 _) = W2
  obtain ⟨T2, hx, hr⟩ : ∃ T', TX W2 g T' (.slice ao n cap) ∧ T'.rc = 3 + 5 * (q % 7) := by subst hV; exact ⟨_, HX1.out.s2 _, rfl⟩
  have HX2 := Lib.hid hx
  have HRC2 := Lib.hid hr
  have HY := Lib.hid (show TX W2 (g + 1) t0 (.slice none 0 0) by subst hV; exact HY.out.other (by simp) _)
  have HB := Lib.hid (show Below w.heap.size w W2 by subst hV; exact HB.out.setCell (by simp [HG.out]) _)
  clear hV hx hr x2 xf
  have x := HX2.out
  have x6 := x.c6
  have xf := x.f
  clear x
  go_upto_region 4 with (fail)
  generalize hV : World.setCell W2 ⟨g, 6, none⟩ (.int .i64 _) = W3
  obtain ⟨T3, hx, hr⟩ : ∃ T', TX W3 g T' (.slice ao n cap) ∧ T'.rc = 3 + 5 * (q % 7) := by subst hV; exact ⟨_, HX2.out.s6 _, HRC2.out⟩
  have HX3 := Lib.hid hx
  have HRC3 := Lib.hid hr
  have HY := Lib.hid (show TX W3 (g + 1) t0 (.slice none 0 0) by subst hV; exact HY.out.other (by simp) _)
  have HB := Lib.hid (show Below w.heap.size w W3 by subst hV; exact HB.out.setCell (by simp [HG.out]) _)
  clear hV hx hr x6 xf
  have x := HX3.out
  have x7 := x.c7
  have xf := x.f
  clear x
  go_upto_region 5 with (fail)
  generalize hV : World.setCell W3 ⟨g, 7, none⟩ (.int .i64 _) = W4
  obtain ⟨T4, hx, hr⟩ : ∃ T', TX W4 g T' (.slice ao n cap) ∧ T'.rc = 3 + 5 * (q % 7) := by subst hV; exact ⟨_, HX3.out.s7 _, HRC3.out⟩
  have HX4 := Lib.hid hx
  have HRC4 := Lib.hid hr
  have HY := Lib.hid (show TX W4 (g + 1) t0 (.slice none 0 0) by subst hV; exact HY.out.other (by simp) _)
  have HB := Lib.hid (show Below w.heap.size w W4 by subst hV; exact HB.out.setCell (by simp [HG.out]) _)
  clear hV hx hr x7 xf
  have x := HX4.out
  have x8 := x.c8
  have xf := x.f
  clear x
  go_upto_region 6 with (fail)
  generalize hV : World.setCell W4 ⟨g, 8, none⟩ (.int .i64 _) = W5
  obtain ⟨T5, hx, hr⟩ : ∃ T', TX W5 g T' (.slice ao n cap) ∧ T'.rc = 3 + 5 * (q % 7) := by subst hV; exact ⟨_, HX4.out.s8 _, HRC4.out⟩
  have HX5 := Lib.hid hx
  have HRC5 := Lib.hid hr
  have HY := Lib.hid (show TX W5 (g + 1) t0 (.slice none 0 0) by subst hV; exact HY.out.other (by simp) _)
  have HB := Lib.hid (show Below w.heap.size w W5 by subst hV; exact HB.out.setCell (by simp [HG.out]) _)
  clear hV hx hr x8 xf
  have x := HX5.out
  have x9 := x.c9
  have xf := x.f
  clear x
  go_upto_region 7 with (fail)
  generalize hV : World.setCell W5 ⟨g, 9, none⟩ (.int .i64 _) = W6
  obtain ⟨T6, hx, hr⟩ : ∃ T', TX W6 g T' (.slice ao n cap) ∧ T'.rc = 3 + 5 * (q % 7) := by subst hV; exact ⟨_, HX5.out.s9 _, HRC5.out⟩
  have HX6 := Lib.hid hx
  have HRC6 := Lib.hid hr
  have HY := Lib.hid (show TX W6 (g + 1) t0 (.slice none 0 0) by subst hV; exact HY.out.other (by simp) _)
  have HB := Lib.hid (show Below w.heap.size w W6 by subst hV; exact HB.out.setCell (by simp [HG.out]) _)
  clear hV hx hr x9 xf
  have x := HX6.out
  have x5 := x.c5
  have xf := x.f
  clear x
  go_upto_region 8 with (fail)
  generalize hV : World.setCell W6 ⟨g, 5, none⟩ (.int .i64 _) = W7
  obtain ⟨T7, hx, hr⟩ : ∃ T', TX W7 g T' (.slice ao n cap) ∧ T'.rc = 3 + 5 * (q % 7) := by subst hV; exact ⟨_, HX6.out.s5 _, HRC6.out⟩
  have HX7 := Lib.hid hx
  have HRC7 := Lib.hid hr
  have HY := Lib.hid (show TX W7 (g + 1) t0 (.slice none 0 0) by subst hV; exact HY.out.other (by simp) _)
  have HB := Lib.hid (show Below w.heap.size w W7 by subst hV; exact HB.out.setCell (by simp [HG.out]) _)
  clear hV hx hr x5 xf
  have x := HX7.out
  have x4 := x.c4
  have xf := x.f
  clear x
  go_upto_region 9 with (fail)
  generalize hV : World.setCell W7 ⟨g, 4, none⟩ (.int .i64 _) = W8
  obtain ⟨T8, hx, hr⟩ : ∃ T', TX W8 g T' (.slice ao n cap) ∧ T'.rc = 3 + 5 * (q % 7) := by subst hV; exact ⟨_, HX7.out.s4 _, HRC7.out⟩
  have HX8 := Lib.hid hx
  have HRC8 := Lib.hid hr
  have HY := Lib.hid (show TX W8 (g + 1) t0 (.slice none 0 0) by subst hV; exact HY.out.other (by simp) _)
  have HB := Lib.hid (show Below w.heap.size w W8 by subst hV; exact HB.out.setCell (by simp [HG.out]) _)
  clear hV hx hr x4 xf
  have x := HX8.out
  have x11 := x.c11
  have xf := x.f
  clear x
  go_upto_region 10 with (fail)
  generalize hV : World.setCell W8 ⟨g, 11, none⟩ (.int .i64 _) = W9
  obtain ⟨T9, hx, hr⟩ : ∃ T', TX W9 g T' (.slice ao n cap) ∧ T'.rc = 3 + 5 * (q % 7) := by subst hV; exact ⟨_, HX8.out.s11 _, HRC8.out⟩
  have HX9 := Lib.hid hx
  have HRC9 := Lib.hid hr
  have HY := Lib.hid (show TX W9 (g + 1) t0 (.slice none 0 0) by subst hV; exact HY.out.other (by simp) _)
  have HB := Lib.hid (show Below w.heap.size w W9 by subst hV; exact HB.out.setCell (by simp [HG.out]) _)
  clear hV hx hr x11 xf
  have x := HX9.out
  have x10 := x.c10
  have xf := x.f
  clear x
  go_upto_region 11 with (fail)
  generalize hV : World.setCell W9 ⟨g, 10, none⟩ (.int .i64 _) = W10
  obtain ⟨T10, hx, hr⟩ : ∃ T', TX W10 g T' (.slice ao n cap) ∧ T'.rc = 3 + 5 * (q % 7) := by subst hV; exact ⟨_, HX9.out.s10 _, HRC9.out⟩
  have HX10 := Lib.hid hx
  have HRC10 := Lib.hid hr
  have HY := Lib.hid (show TX W10 (g + 1) t0 (.slice none 0 0) by subst hV; exact HY.out.other (by simp) _)
  have HB := Lib.hid (show Below w.heap.size w W10 by subst hV; exact HB.out.setCell (by simp [HG.out]) _)
  clear hV hx hr x10 xf
  have x := HX10.out
  have c0 := x.c0
  have c1 := x.c1
  have c2 := x.c2
  have c3 := x.c3
  have c4 := x.c4
  have c5 := x.c5
  have c6 := x.c6
  have c7 := x.c7
  have c8 := x.c8
  have c9 := x.c9
  have c10 := x.c10
  have c11 := x.c11
  have c12 := x.c12
  have y := HY.out
  have yf := y.f
  have r0 := y.c0
  have r1 := y.c1
  have r2 := y.c2
  have r3 := y.c3
  have r4 := y.c4
  have r5 := y.c5
  have r6 := y.c6
  have r7 := y.c7
  have r8 := y.c8
  have r9 := y.c9
  have r10 := y.c10
  have r11 := y.c11
  have r12 := y.c12
  have Z := Lib.hid (HY.out.all T10 (.slice ao n cap))
  clear x y
  go_wp2
  change bodyPost _ _ _ _ _ (setT W10 (g + 1) T10 (.slice ao n cap))
  have z := Z.out
  refine bodyPost_ret (v := thV T10 (.slice ao n cap)) (by simp [results, Try.results12, go_sem, thV, z.c0, z.c1, z.c2, z.c3, z.c4, z.c5, z.c6, z.c7, z.c8, z.c9, z.c10, z.c11, z.c12]) rfl ⟨T10, rfl, HRC10.out, setT_below HB.out (by have := HG.out; omega) _ _⟩

end Go.Proofs.Ythefdglocnalhaa.M2
