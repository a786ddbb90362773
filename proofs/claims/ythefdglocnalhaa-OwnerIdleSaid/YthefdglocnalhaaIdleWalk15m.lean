/-
  The walk of OwnerIdle: for every thread, numbers, operation and choice it answers true and leaves all old memory as it was.
-/
import Derived.Test.YthefdglocnalhaaRunN15m
import Derived.Test.YthefdglocnalhaaSame15m
import Derived.Test.YthefdglocnalhaaKno15m
import Derived.Test.YthefdglocnalhaaRunPl15m
namespace Go.Proofs.Ythefdglocnalhaa.M2
open Go.RowKit

/-- A cell of a thread's box is written: the memory stays. -/
theorem Mem1.setC {w : World} {B p : Nat} {size : Int} {zs : List Int} {st : Int} (h : Mem1 w B p size zs st) {g : Nat} {t0 : Th} {b0 : Value} (hx : TX w g t0 b0) {q : Addr} (hq : q.block = g) (x : Value) : Mem1 (w.setCell q x) B p size zs st := by
  obtain ⟨v, m⟩ := h
  refine ⟨v, m.setOther ?_ ?_ x⟩
  · rw [hq]
    exact (RN.ne m.block hx (by decide)).symm
  · intro e
    rw [hq] at e
    rcases m.own.2 with ⟨rfl, _⟩ | ⟨g', cap, cur, rfl, _, hg', _⟩
    · simp [Value.ownBlock] at e
    · simp only [Value.ownBlock, Option.some.injEq] at e
      subst e
      exact RN.ne hg' hx (by decide) rfl

/-- Ahead of what is asked of the step that does nothing. -/
structure IA1 (w : World) (p gt gu gx go : Nat) (k v : Int) (al : Option Addr) (ll : Nat) (zs : List Int) (st : Int) (size : Int) (ao ao' : Option Addr) (n cap cap' : Nat) (l : List (Int × Int × Int)) (t1 : Th) (W : World) : Prop where
  fd : ∃ B, w.heap.size ≤ B ∧ Mem1 W B p size zs st
  ft : TX W gt t1 (.slice ao n cap)
  fu : TX W gu t1 (.slice ao' n cap')
  fx : RB W gx 0 0
  fo : OBx W go k v
  fz : Reads .i64 W al ll zs
  i1 : Its W ao n l
  i2 : Its W ao' n l
  lo : Below w.heap.size w W
section
variable {w W V : World} {p gt gu gx go : Nat} {k v : Int} {al : Option Addr} {ll : Nat} {zs : List Int} {st size : Int} {ao ao' : Option Addr} {n cap cap' : Nat} {l : List (Int × Int × Int)} {t1 : Th}
theorem IA1.fresh (h : IA1 w p gt gu gx go k v al ll zs st size ao ao' n cap cap' l t1 W) (hb : Below W.heap.size W V) : IA1 w p gt gu gx go k v al ll zs st size ao ao' n cap cap' l t1 V :=
  ⟨h.fd.imp fun _ d => ⟨d.1, d.2.keep hb⟩, h.ft.keep hb, h.fu.keep hb, h.fx.keep hb, h.fo.keep hb, h.fz.keep hb, h.i1.keep hb, h.i2.keep hb, h.lo.trans (hb.mono h.lo.size)⟩
theorem IA1.cells (h : IA1 w p gt gu gx go k v al ll zs st size ao ao' n cap cap' l t1 W) : W.cell? ⟨gt, 0, none⟩ = some (.int .i64 t1.ti) ∧ W.cell? ⟨gt, 1, none⟩ = some (.int .i64 t1.pc) ∧ W.cell? ⟨gt, 2, none⟩ = some (.int .i64 t1.rc) ∧ W.cell? ⟨gt, 3, none⟩ = some (.int .i64 t1.sq) ∧ W.cell? ⟨gt, 4, none⟩ = some (.int .i64 t1.wo) ∧ W.cell? ⟨gt, 5, none⟩ = some (.int .i64 t1.lk) ∧ W.cell? ⟨gt, 6, none⟩ = some (.int .i64 t1.cu) ∧ W.cell? ⟨gt, 7, none⟩ = some (.int .i64 t1.pv) ∧ W.cell? ⟨gt, 8, none⟩ = some (.int .i64 t1.nt) ∧ W.cell? ⟨gt, 9, none⟩ = some (.int .i64 t1.mx) ∧ W.cell? ⟨gt, 10, none⟩ = some (.int .i64 t1.ps) ∧ W.cell? ⟨gt, 11, none⟩ = some (.int .i64 t1.rn) ∧ W.cell? ⟨gt, 12, none⟩ = some (.slice ao n cap) ∧ W.cell? ⟨gu, 0, none⟩ = some (.int .i64 t1.ti) ∧ W.cell? ⟨gu, 1, none⟩ = some (.int .i64 t1.pc) ∧ W.cell? ⟨gu, 2, none⟩ = some (.int .i64 t1.rc) ∧ W.cell? ⟨gu, 3, none⟩ = some (.int .i64 t1.sq) ∧ W.cell? ⟨gu, 4, none⟩ = some (.int .i64 t1.wo) ∧ W.cell? ⟨gu, 5, none⟩ = some (.int .i64 t1.lk) ∧ W.cell? ⟨gu, 6, none⟩ = some (.int .i64 t1.cu) ∧ W.cell? ⟨gu, 7, none⟩ = some (.int .i64 t1.pv) ∧ W.cell? ⟨gu, 8, none⟩ = some (.int .i64 t1.nt) ∧ W.cell? ⟨gu, 9, none⟩ = some (.int .i64 t1.mx) ∧ W.cell? ⟨gu, 10, none⟩ = some (.int .i64 t1.ps) ∧ W.cell? ⟨gu, 11, none⟩ = some (.int .i64 t1.rn) ∧ W.cell? ⟨gu, 12, none⟩ = some (.slice ao' n cap') ∧ W.cell? ⟨gx, 0, none⟩ = some (.int .u8 0) ∧ W.cell? ⟨gx, 1, none⟩ = some (.int .i32 0) :=
  ⟨h.ft.c0, h.ft.c1, h.ft.c2, h.ft.c3, h.ft.c4, h.ft.c5, h.ft.c6, h.ft.c7, h.ft.c8, h.ft.c9, h.ft.c10, h.ft.c11, h.ft.c12, h.fu.c0, h.fu.c1, h.fu.c2, h.fu.c3, h.fu.c4, h.fu.c5, h.fu.c6, h.fu.c7, h.fu.c8, h.fu.c9, h.fu.c10, h.fu.c11, h.fu.c12, h.fx.c0, h.fx.c1⟩
theorem IA1.same (h : IA1 w p gt gu gx go k v al ll zs st size ao ao' n cap cap' l t1 W) (hn : n ≤ 1000000) :
    Calls Try.prog 23 #[.agg #[.int .i64 t1.ti, .int .i64 t1.pc, .int .i64 t1.rc, .int .i64 t1.sq, .int .i64 t1.wo, .int .i64 t1.lk, .int .i64 t1.cu, .int .i64 t1.pv, .int .i64 t1.nt, .int .i64 t1.mx, .int .i64 t1.ps, .int .i64 t1.rn, .slice ao' n cap'], .agg #[.int .i64 t1.ti, .int .i64 t1.pc, .int .i64 t1.rc, .int .i64 t1.sq, .int .i64 t1.wo, .int .i64 t1.lk, .int .i64 t1.cu, .int .i64 t1.pv, .int .i64 t1.nt, .int .i64 t1.mx, .int .i64 t1.ps, .int .i64 t1.rn, .slice ao n cap]] W fun e w' => e = .returned (.bool true) ∧ IA1 w p gt gu gx go k v al ll zs st size ao ao' n cap cap' l t1 w' :=
  (sameT W t1 ao' ao n cap' cap l h.i2 h.i1 hn).mono fun e w' ⟨he, hb⟩ => ⟨he, h.fresh hb⟩
theorem IA1.steps (h : IA1 w p gt gu gx go k v al ll zs st size ao ao' n cap cap' l t1 W) :
    Calls Try.prog 30 #[.pointer (some ⟨p, 0, none⟩)] W fun e w' => e = .returned (.int .i64 st) ∧ W = w' := by
  obtain ⟨B, _, m⟩ := h.fd
  exact steps1 m
theorem IA1.told (h : IA1 w p gt gu gx go k v al ll zs st size ao ao' n cap cap' l t1 W) :
    Calls Try.prog 25 #[.pointer (some ⟨p, 0, none⟩)] W fun e w' => e = .returned (.slice (some ⟨W.heap.size, 0, none⟩) ll ll) ∧ Reads .i64 w' (some ⟨W.heap.size, 0, none⟩) ll zs ∧ IA1 w p gt gu gx go k v al ll zs st size ao ao' n cap cap' l t1 w' := by
  obtain ⟨B, _, m⟩ := h.fd
  have C := cells1 m
  rw [h.fz.1] at C
  refine C.mono ?_
  rintro e w' ⟨rfl, o, b⟩
  obtain ⟨aq, cq, e, r, _⟩ := _root_.Go.Proofs.Ythefdglocnalhaa.reads_own o
  simp only [Value.slice.injEq] at e
  obtain ⟨rfl, _, rfl⟩ := e
  exact ⟨rfl, r, h.fresh b⟩
theorem IA1.sameC (h : IA1 w p gt gu gx go k v al ll zs st size ao ao' n cap cap' l t1 W) {g : Option Addr} (c : Nat) (r : Reads .i64 W g ll zs) (hl : ll ≤ 150) :
    Calls Try.prog 24 #[.slice g ll ll, .slice al ll c] W fun e w' => e = .returned (.bool true) ∧ IA1 w p gt gu gx go k v al ll zs st size ao ao' n cap cap' l t1 w' :=
  (sameEq W g al ll ll c zs r h.fz (by omega)).mono fun e w' ⟨he, hb⟩ => ⟨he, h.fresh hb⟩
end

/-- Ahead of the end. -/
structure IB1 (w : World) (gu gv : Nat) (ao ao' : Option Addr) (n cap cap' : Nat) (l : List (Int × Int × Int)) (B : Th) (W : World) : Prop where
  ft : TX W gu B (.slice ao n cap)
  fu : TX W gv B (.slice ao' n cap')
  i1 : Its W ao n l
  i2 : Its W ao' n l
  lo : Below w.heap.size w W
section
variable {w W V : World} {gu gv : Nat} {ao ao' : Option Addr} {n cap cap' : Nat} {l : List (Int × Int × Int)} {B : Th}
theorem IB1.fresh (h : IB1 w gu gv ao ao' n cap cap' l B W) (hb : Below W.heap.size W V) : IB1 w gu gv ao ao' n cap cap' l B V :=
  ⟨h.ft.keep hb, h.fu.keep hb, h.i1.keep hb, h.i2.keep hb, h.lo.trans (hb.mono h.lo.size)⟩
theorem IB1.cells (h : IB1 w gu gv ao ao' n cap cap' l B W) : W.cell? ⟨gu, 0, none⟩ = some (.int .i64 B.ti) ∧ W.cell? ⟨gu, 1, none⟩ = some (.int .i64 B.pc) ∧ W.cell? ⟨gu, 2, none⟩ = some (.int .i64 B.rc) ∧ W.cell? ⟨gu, 3, none⟩ = some (.int .i64 B.sq) ∧ W.cell? ⟨gu, 4, none⟩ = some (.int .i64 B.wo) ∧ W.cell? ⟨gu, 5, none⟩ = some (.int .i64 B.lk) ∧ W.cell? ⟨gu, 6, none⟩ = some (.int .i64 B.cu) ∧ W.cell? ⟨gu, 7, none⟩ = some (.int .i64 B.pv) ∧ W.cell? ⟨gu, 8, none⟩ = some (.int .i64 B.nt) ∧ W.cell? ⟨gu, 9, none⟩ = some (.int .i64 B.mx) ∧ W.cell? ⟨gu, 10, none⟩ = some (.int .i64 B.ps) ∧ W.cell? ⟨gu, 11, none⟩ = some (.int .i64 B.rn) ∧ W.cell? ⟨gu, 12, none⟩ = some (.slice ao n cap) ∧ W.cell? ⟨gv, 0, none⟩ = some (.int .i64 B.ti) ∧ W.cell? ⟨gv, 1, none⟩ = some (.int .i64 B.pc) ∧ W.cell? ⟨gv, 2, none⟩ = some (.int .i64 B.rc) ∧ W.cell? ⟨gv, 3, none⟩ = some (.int .i64 B.sq) ∧ W.cell? ⟨gv, 4, none⟩ = some (.int .i64 B.wo) ∧ W.cell? ⟨gv, 5, none⟩ = some (.int .i64 B.lk) ∧ W.cell? ⟨gv, 6, none⟩ = some (.int .i64 B.cu) ∧ W.cell? ⟨gv, 7, none⟩ = some (.int .i64 B.pv) ∧ W.cell? ⟨gv, 8, none⟩ = some (.int .i64 B.nt) ∧ W.cell? ⟨gv, 9, none⟩ = some (.int .i64 B.mx) ∧ W.cell? ⟨gv, 10, none⟩ = some (.int .i64 B.ps) ∧ W.cell? ⟨gv, 11, none⟩ = some (.int .i64 B.rn) ∧ W.cell? ⟨gv, 12, none⟩ = some (.slice ao' n cap') :=
  ⟨h.ft.c0, h.ft.c1, h.ft.c2, h.ft.c3, h.ft.c4, h.ft.c5, h.ft.c6, h.ft.c7, h.ft.c8, h.ft.c9, h.ft.c10, h.ft.c11, h.ft.c12, h.fu.c0, h.fu.c1, h.fu.c2, h.fu.c3, h.fu.c4, h.fu.c5, h.fu.c6, h.fu.c7, h.fu.c8, h.fu.c9, h.fu.c10, h.fu.c11, h.fu.c12⟩
theorem IB1.same (h : IB1 w gu gv ao ao' n cap cap' l B W) (hn : n ≤ 1000000) :
    Calls Try.prog 23 #[.agg #[.int .i64 B.ti, .int .i64 B.pc, .int .i64 B.rc, .int .i64 B.sq, .int .i64 B.wo, .int .i64 B.lk, .int .i64 B.cu, .int .i64 B.pv, .int .i64 B.nt, .int .i64 B.mx, .int .i64 B.ps, .int .i64 B.rn, .slice ao' n cap'], .agg #[.int .i64 B.ti, .int .i64 B.pc, .int .i64 B.rc, .int .i64 B.sq, .int .i64 B.wo, .int .i64 B.lk, .int .i64 B.cu, .int .i64 B.pv, .int .i64 B.nt, .int .i64 B.mx, .int .i64 B.ps, .int .i64 B.rn, .slice ao n cap]] W fun e w' => e = .returned (.bool true) ∧ IB1 w gu gv ao ao' n cap cap' l B w' :=
  (sameT W B ao' ao n cap' cap l h.i2 h.i1 hn).mono fun e w' ⟨he, hb⟩ => ⟨he, h.fresh hb⟩
theorem IB1.known (h : IB1 w gu gv ao ao' n cap cap' l B W) :
    Calls Try.prog 10 #[] W fun e w' => e = .returned (.bool true) ∧ IB1 w gu gv ao ao' n cap cap' l B w' :=
  (M2.known W).mono fun e w' ⟨he, hb⟩ => ⟨he, h.fresh hb⟩
end

set_option maxRecDepth 100000 in
set_option maxHeartbeats 16000000 in
theorem idleWalk {w : World} (t : Th) (ao : Option Addr) (n cap : Nat) (l : List (Int × Int × Int)) (al : Option Addr) (ll cl : Nat) (zs : List Int) (k v q : Int) (hi : Its w ao n l) (hc : ao = none → cap = 0) (hr : ad t.rc 0 = t.rc) (hz : ArgInt64s w al ll cl zs) (_ : ll ≤ 140737488351232) (ho : OpOk (k, v)) (q0 : 0 ≤ q) (q1 : q ≤ 255) :
    Calls Try.prog 7 #[thV t (.slice ao n cap), .slice al ll cl, .agg #[.int .u8 k, .int .i32 v], .int .u8 q] w fun e w' => e = .returned (.bool true) ∧ Below w.heap.size w w' := by
  rw [show thV t (.slice ao n cap) = .agg #[.int .i64 t.ti, .int .i64 t.pc, .int .i64 t.rc, .int .i64 t.sq, .int .i64 t.wo, .int .i64 t.lk, .int .i64 t.cu, .int .i64 t.pv, .int .i64 t.nt, .int .i64 t.mx, .int .i64 t.ps, .int .i64 t.rn, .slice ao n cap] from rfl]
  have HZ := Lib.hid hz
  have HI := Lib.hid hi
  have HC := Lib.hid hc
  have HRR := Lib.hid hr
  have HO := Lib.hid ho
  clear hz hi hc hr ho
  by_cases hl : 150 < ll
  · have l0 : (150 : Int) < ll := by omega
    go_enter Try.func7, Try.ntmps7
    go_upto_region 1 with (fail)
    generalize hW : (w.alloc (.cells #[.int .i64 t.ti, .int .i64 t.pc, .int .i64 t.rc, .int .i64 t.sq, .int .i64 t.wo, .int .i64 t.lk, .int .i64 t.cu, .int .i64 t.pv, .int .i64 t.nt, .int .i64 t.mx, .int .i64 t.ps, .int .i64 t.rn, .slice ao n cap] 25)).alloc (.cells #[.int .u8 k, .int .i32 v] 27) = W
    have HT := Lib.hid (show TX W w.heap.size t (.slice ao n cap) by subst hW; exact (TX.new w t _).alloc _)
    have HOB := Lib.hid (show OBx W (w.heap.size + 1) k v by
      subst hW
      have := OBx.new (w.alloc (.cells #[.int .i64 t.ti, .int .i64 t.pc, .int .i64 t.rc, .int .i64 t.sq, .int .i64 t.wo, .int .i64 t.lk, .int .i64 t.cu, .int .i64 t.pv, .int .i64 t.nt, .int .i64 t.mx, .int .i64 t.ps, .int .i64 t.rn, .slice ao n cap] 25)) k v
      simpa using this)
    have HB := Lib.hid (show Below w.heap.size w W by subst hW; exact ((Below.refl _ _).alloc (Nat.le_refl _) _).alloc (by simp) _)
    have c12 := HT.out.c12
    clear hW
    go_wp2_with fail
    refine (known W).mono ?_
    rintro e w1 ⟨rfl, b1⟩
    have HB1 := Lib.hid (HB.out.trans (b1.mono HB.out.size))
    clear b1
    go_wp2
    go_ret
    exact ⟨rfl, HB1.out⟩
  by_cases hn : 20 < n
  · have l0 : (ll : Int) ≤ 150 := by omega
    have l2 : (20 : Int) < n := by omega
    go_enter Try.func7, Try.ntmps7
    go_upto_region 1 with (fail)
    generalize hW : (w.alloc (.cells #[.int .i64 t.ti, .int .i64 t.pc, .int .i64 t.rc, .int .i64 t.sq, .int .i64 t.wo, .int .i64 t.lk, .int .i64 t.cu, .int .i64 t.pv, .int .i64 t.nt, .int .i64 t.mx, .int .i64 t.ps, .int .i64 t.rn, .slice ao n cap] 25)).alloc (.cells #[.int .u8 k, .int .i32 v] 27) = W
    have HT := Lib.hid (show TX W w.heap.size t (.slice ao n cap) by subst hW; exact (TX.new w t _).alloc _)
    have HOB := Lib.hid (show OBx W (w.heap.size + 1) k v by
      subst hW
      have := OBx.new (w.alloc (.cells #[.int .i64 t.ti, .int .i64 t.pc, .int .i64 t.rc, .int .i64 t.sq, .int .i64 t.wo, .int .i64 t.lk, .int .i64 t.cu, .int .i64 t.pv, .int .i64 t.nt, .int .i64 t.mx, .int .i64 t.ps, .int .i64 t.rn, .slice ao n cap] 25)) k v
      simpa using this)
    have HB := Lib.hid (show Below w.heap.size w W by subst hW; exact ((Below.refl _ _).alloc (Nat.le_refl _) _).alloc (by simp) _)
    have c12 := HT.out.c12
    clear hW
    go_wp2_with fail
    refine (known W).mono ?_
    rintro e w1 ⟨rfl, b1⟩
    have HB1 := Lib.hid (HB.out.trans (b1.mono HB.out.size))
    clear b1
    go_wp2
    go_ret
    exact ⟨rfl, HB1.out⟩
  have l0 : (ll : Int) ≤ 150 := by omega
  have l2 : (n : Int) ≤ 20 := by omega
  have HL := Lib.hid (show ll ≤ 150 by omega)
  have HN := Lib.hid (show n ≤ 20 by omega)
  clear hl hn
  go_enter Try.func7, Try.ntmps7
  go_upto_region 1 with (fail)
  generalize hW : (w.alloc (.cells #[.int .i64 t.ti, .int .i64 t.pc, .int .i64 t.rc, .int .i64 t.sq, .int .i64 t.wo, .int .i64 t.lk, .int .i64 t.cu, .int .i64 t.pv, .int .i64 t.nt, .int .i64 t.mx, .int .i64 t.ps, .int .i64 t.rn, .slice ao n cap] 25)).alloc (.cells #[.int .u8 k, .int .i32 v] 27) = W
  have HT := Lib.hid (show TX W w.heap.size t (.slice ao n cap) by subst hW; exact (TX.new w t _).alloc _)
  have HOB := Lib.hid (show OBx W (w.heap.size + 1) k v by
    subst hW
    have := OBx.new (w.alloc (.cells #[.int .i64 t.ti, .int .i64 t.pc, .int .i64 t.rc, .int .i64 t.sq, .int .i64 t.wo, .int .i64 t.lk, .int .i64 t.cu, .int .i64 t.pv, .int .i64 t.nt, .int .i64 t.mx, .int .i64 t.ps, .int .i64 t.rn, .slice ao n cap] 25)) k v
    simpa using this)
  have HB := Lib.hid (show Below w.heap.size w W by subst hW; exact ((Below.refl _ _).alloc (Nat.le_refl _) _).alloc (by simp) _)
  have c12 := HT.out.c12
  clear hW
  have HZW := Lib.hid (HZ.out.1.keep HB.out)
  go_wp2_with fail
  refine (memoryAny W al ll cl zs HZW.out (by have := HL.out; omega)).mono ?_
  rintro e w1 ⟨p, u, rfl, m1, o1, b1⟩
  clear c12 l0 l2
  have HLZ := Lib.hid (show zs.length = ll from HZ.out.1.1)
  have HM := Lib.hid (show ∃ B, w.heap.size ≤ B ∧ Mem1 w1 B p (ll : Int) zs (1 + (ll : Int)) from ⟨_, HB.out.size, by rw [← HLZ.out]; exact m1⟩)
  have HB1 := Lib.hid (HB.out.trans (b1.mono HB.out.size))
  have HT := Lib.hid (HT.out.keep b1)
  have HOB := Lib.hid (HOB.out.keep b1)
  obtain ⟨au, cu, eu⟩ := ownShape o1
  rw [HLZ.out] at eu ⊢
  subst eu
  clear m1 o1 b1 HB HZW
  go_upto_region 6 with (fail)
  generalize hW2 : w1.alloc (.cells #[.int .i64 (ll : Int), .slice au ll cu, .int .i64 (1 + (ll : Int))] 37) = W2
  have f2 : Below w1.heap.size w1 W2 := by subst hW2; exact (Below.refl _ _).alloc (Nat.le_refl _) _
  have HM := Lib.hid (HM.out.imp fun _ h => And.intro h.1 (h.2.keep f2))
  have HT := Lib.hid (HT.out.keep f2)
  have HOB := Lib.hid (HOB.out.keep f2)
  have HB := Lib.hid (HB1.out.trans (f2.mono HB1.out.size))
  clear hW2 f2 HB1
  generalize w1.heap.size = g10 at *
  have q0' := HT.out.c1
  have xf := HT.out.f
  rcases (show t.pc < 1 ∨ (1 ≤ t.pc ∧ 16 < t.pc) ∨ (1 ≤ t.pc ∧ t.pc ≤ 16) from by omega) with hp | hp | hp
  · have h1 : decide (1 ≤ t.pc) = false := decide_eq_false (by omega)
    have HP := Lib.hid (show t.pc < 1 ∨ 16 < t.pc from .inl hp)
    clear hp
    go_upto_region 8 with (fail)
    obtain ⟨T1, hT1⟩ : ∃ T1, t = T1 := ⟨_, rfl⟩
    rw [hT1] at HP HT HRR
    have HR1 := HRR
    obtain ⟨W3, hW3⟩ : ∃ W3, W2 = W3 := ⟨_, rfl⟩
    rw [hW3] at HM HT HOB HB ⊢
    clear h1 hT1 hW3 q0' xf
    obtain ⟨B, hB, m⟩ := HM.out
    have HBB := Lib.hid hB
    have HSP := Lib.hid (steps1 m)
    obtain ⟨v0, mm⟩ := m
    have HMM := Lib.hid mm
    clear hB mm HM
    go_wp2_with fail
    with_reducible refine HSP.out.mono ?_
    clear HSP
    rintro e w' ⟨rfl, rfl⟩
    have C := stepO W3 HMM.out T1 ao n cap l (HI.out.keep HB.out) (by have := HN.out; omega) HC.out HR1.out (by omega) (by have := HL.out; omega)
    rw [show thV T1 (.slice ao n cap) = .agg #[.int .i64 T1.ti, .int .i64 T1.pc, .int .i64 T1.rc, .int .i64 T1.sq, .int .i64 T1.wo, .int .i64 T1.lk, .int .i64 T1.cu, .int .i64 T1.pv, .int .i64 T1.nt, .int .i64 T1.mx, .int .i64 T1.ps, .int .i64 T1.rn, .slice ao n cap] from rfl] at C
    have HCC := Lib.hid C
    have x := HT.out
    have c0 := x.c0
    have c1 := x.c1
    have c2 := x.c2
    have c3 := x.c3
    have c4 := x.c4
    have c5 := x.c5
    have c6 := x.c6
    have c7 := x.c7
    have c8 := x.c8
    have c9 := x.c9
    have c10 := x.c10
    have c11 := x.c11
    have c12 := x.c12
    clear C x
    go_wp2_with fail
    with_reducible refine HCC.out.mono ?_
    clear HCC c0 c1 c2 c3 c4 c5 c6 c7 c8 c9 c10 c11 c12
    rintro e w4 ⟨ao', cap', rfl, d4, i4, l4, n4⟩
    rw [show (stp (ll : Int) T1 zs).t = T1 by rw [stp_idle _ zs HP.out], show (stp (ll : Int) T1 zs).k = 0 by rw [stp_idle _ zs HP.out], show (stp (ll : Int) T1 zs).v = 0 by rw [stp_idle _ zs HP.out], show (stp (ll : Int) T1 zs).d = false by rw [stp_idle _ zs HP.out], show thV T1 (.slice ao' n cap') = .agg #[.int .i64 T1.ti, .int .i64 T1.pc, .int .i64 T1.rc, .int .i64 T1.sq, .int .i64 T1.wo, .int .i64 T1.lk, .int .i64 T1.cu, .int .i64 T1.pv, .int .i64 T1.nt, .int .i64 T1.mx, .int .i64 T1.ps, .int .i64 T1.rn, .slice ao' n cap'] from rfl]
    rw [show (stp (ll : Int) T1 zs).zs = zs by rw [stp_idle _ zs HP.out], show (stp (ll : Int) T1 zs).c = 0 by rw [stp_idle _ zs HP.out], Int.add_zero] at d4
    have k4 := d4.kept HMM.out
    obtain ⟨m4, b4⟩ := d4.one HMM.out
    have HT := Lib.hid (HT.out.off k4)
    have HOB := Lib.hid (HOB.out.off k4)
    have HB := Lib.hid (HB.out.trans (b4.mono HBB.out))
    have HM4 := Lib.hid m4
    have HI4 := Lib.hid i4
    clear d4 i4 l4 n4 k4 m4 b4 HMM
    go_upto_region 10 with (fail)
    generalize hW5 : (w4.alloc (.cells #[.int .i64 T1.ti, .int .i64 T1.pc, .int .i64 T1.rc, .int .i64 T1.sq, .int .i64 T1.wo, .int .i64 T1.lk, .int .i64 T1.cu, .int .i64 T1.pv, .int .i64 T1.nt, .int .i64 T1.mx, .int .i64 T1.ps, .int .i64 T1.rn, .slice ao' n cap'] 25)).alloc (.cells #[.int .u8 0, .int .i32 0] 49) = W5
    have f5 : Below w4.heap.size w4 W5 := by subst hW5; exact ((Below.refl _ _).alloc (Nat.le_refl _) _).alloc (by simp) _
    have hu : TX W5 w4.heap.size T1 (.slice ao' n cap') := by subst hW5; exact (TX.new w4 T1 _).alloc _
    have hr : RB W5 (w4.heap.size + 1) 0 0 := by
      subst hW5
      have := RB.new (w4.alloc (.cells #[.int .i64 T1.ti, .int .i64 T1.pc, .int .i64 T1.rc, .int .i64 T1.sq, .int .i64 T1.wo, .int .i64 T1.lk, .int .i64 T1.cu, .int .i64 T1.pv, .int .i64 T1.nt, .int .i64 T1.mx, .int .i64 T1.ps, .int .i64 T1.rn, .slice ao' n cap'] 25)) 0 0
      simpa using this
    have HB := Lib.hid (HB.out.trans (f5.mono HB.out.size))
    have HOB := Lib.hid (HOB.out.keep f5)
    have HIA := Lib.hid (show IA1 w p w.heap.size w4.heap.size (w4.heap.size + 1) (w.heap.size + 1) k v al ll zs (1 + (ll : Int)) (ll : Int) ao ao' n cap cap' l T1 W5 from
      ⟨⟨B, HBB.out, HM4.out.keep f5⟩, HT.out.keep f5, hu, hr, HOB.out, HZ.out.1.keep HB.out, HI.out.keep HB.out, HI4.out.keep f5, HB.out⟩)
    clear hW5 f5 hu hr HM4 HI4 HBB HT
    generalize w4.heap.size + 1 = gx at *
    generalize w4.heap.size = gu at *
    have HC1 := Lib.hid (fun (V : World) (h : IA1 w p w.heap.size gu gx (w.heap.size + 1) k v al ll zs (1 + (ll : Int)) (ll : Int) ao ao' n cap cap' l T1 V) => h.same (by have := HN.out; omega))
    have HC2 := Lib.hid (fun (V : World) (h : IA1 w p w.heap.size gu gx (w.heap.size + 1) k v al ll zs (1 + (ll : Int)) (ll : Int) ao ao' n cap cap' l T1 V) => h.steps)
    have HC3 := Lib.hid (fun (V : World) (h : IA1 w p w.heap.size gu gx (w.heap.size + 1) k v al ll zs (1 + (ll : Int)) (ll : Int) ao ao' n cap cap' l T1 V) => h.told)
    have HC4 := Lib.hid (fun (V : World) (g : Option Addr) (h : IA1 w p w.heap.size gu gx (w.heap.size + 1) k v al ll zs (1 + (ll : Int)) (ll : Int) ao ao' n cap cap' l T1 V) (r : Reads .i64 V g ll zs) => h.sameC cl r HL.out)
    have heq := eqRes 0 0
    have i0 := HIA.out.cells
    go_wp2_with fail
    with_reducible refine (HC1.out _ HIA.out).mono ?_
    rintro e V1 ⟨rfl, s1⟩
    clear i0 HIA HC1
    have HI1 := Lib.hid s1
    have i0 := s1.cells
    clear s1
    go_wp2_with fail
    with_reducible refine (HC2.out _ HI1.out).mono ?_
    rintro e w' ⟨rfl, rfl⟩
    clear HC2
    go_wp2_with fail
    with_reducible refine (HC3.out _ HI1.out).mono ?_
    rintro e V3 ⟨rfl, r3, s3⟩
    clear i0 HI1 HC3
    have HI3 := Lib.hid s3
    have HR3 := Lib.hid r3
    clear s3 r3
    go_wp2_with fail
    with_reducible refine (HC4.out _ _ HI3.out HR3.out).mono ?_
    rintro e V4 ⟨rfl, s4⟩
    clear HI3 HR3 HC4 heq
    have HF := Lib.hid s4
    clear s4
    go_upto_region 11 with (fail)
    have x := HF.out.ft
    have c0 := x.c0
    have c1 := x.c1
    have c2 := x.c2
    have c3 := x.c3
    have c4 := x.c4
    have c5 := x.c5
    have c6 := x.c6
    have c7 := x.c7
    have c8 := x.c8
    have c9 := x.c9
    have c10 := x.c10
    have c11 := x.c11
    have c12 := x.c12
    clear x
    go_upto_region 12 with (fail)
    generalize hW7 : V4.alloc (.cells #[.int .i64 T1.ti, .int .i64 T1.pc, .int .i64 T1.rc, .int .i64 T1.sq, .int .i64 T1.wo, .int .i64 T1.lk, .int .i64 T1.cu, .int .i64 T1.pv, .int .i64 T1.nt, .int .i64 T1.mx, .int .i64 T1.ps, .int .i64 T1.rn, .slice ao n cap] 25) = W7
    have f7 : Below V4.heap.size V4 W7 := by subst hW7; exact (Below.refl _ _).alloc (Nat.le_refl _) _
    have hx7 : TX W7 V4.heap.size T1 (.slice ao n cap) := by subst hW7; exact TX.new V4 T1 _
    clear hW7 c0 c1 c2 c3 c4 c5 c6 c7 c8 c9 c10 c11 c12
    obtain ⟨gb, hgb⟩ : ∃ g, V4.heap.size = g := ⟨_, rfl⟩
    have xf := hx7.f
    have x1 := hx7.c1
    rw [hgb] at f7 hx7 xf x1 ⊢
    have HGB := Lib.hid hgb
    clear hgb
    have HX7 := Lib.hid hx7
    have HF7 := Lib.hid f7
    clear hx7 f7
    go_upto_region 13 with (fail)
    generalize hV : World.setCell W7 ⟨gb, 1, none⟩ (.int .i64 _) = W8
    obtain ⟨Z, hx, hpc, hrc⟩ : ∃ Z, TX W8 gb Z (.slice ao n cap) ∧ ¬ Z.pc = 0 ∧ Z.rc = T1.rc := by subst hV; exact ⟨_, HX7.out.s1 _, by simp; omega, rfl⟩
    have b8 : Below V4.heap.size V4 W8 := by
      subst hV
      rw [HGB.out]
      exact HF7.out.setCell (Nat.le_refl _) _
    have HB8 := Lib.hid (HF.out.lo.trans (b8.mono HF.out.lo.size))
    have HOB := Lib.hid (HF.out.fo.keep b8)
    obtain ⟨B8, hB8, m7⟩ := HF.out.fd
    have HM8 := Lib.hid (And.intro hB8 (m7.keep b8))
    have HT := Lib.hid hx
    have HPZ := Lib.hid hpc
    have HRZ := Lib.hid (show ad Z.rc 0 = Z.rc by rw [hrc]; exact HR1.out)
    clear hV hx hpc hrc b8 hB8 m7 HF HX7 HF7 xf x1 HB
    have C := beginO W8 Z ao n cap l (HI.out.keep HB8.out) (by have := HN.out; omega) HC.out k v HO.out
    unfold BeginPost at C
    rw [bgT_no _ HPZ.out, show (Z.pc == 0) = false by simpa using HPZ.out, show thV Z (.slice ao n cap) = .agg #[.int .i64 Z.ti, .int .i64 Z.pc, .int .i64 Z.rc, .int .i64 Z.sq, .int .i64 Z.wo, .int .i64 Z.lk, .int .i64 Z.cu, .int .i64 Z.pv, .int .i64 Z.nt, .int .i64 Z.mx, .int .i64 Z.ps, .int .i64 Z.rn, .slice ao n cap] from rfl] at C
    have HCC := Lib.hid C
    have x := HT.out
    have c0 := x.c0
    have c1 := x.c1
    have c2 := x.c2
    have c3 := x.c3
    have c4 := x.c4
    have c5 := x.c5
    have c6 := x.c6
    have c7 := x.c7
    have c8 := x.c8
    have c9 := x.c9
    have c10 := x.c10
    have c11 := x.c11
    have c12 := x.c12
    have o0 := HOB.out.c0
    have o1 := HOB.out.c1
    clear C x
    go_wp2_with fail
    with_reducible refine HCC.out.mono ?_
    clear HCC c0 c1 c2 c3 c4 c5 c6 c7 c8 c9 c10 c11 c12 o0 o1
    rintro e w9 ⟨ao3, cap3, rfl, i9, l9, b9, n9⟩
    rw [show thV Z (.slice ao3 n cap3) = .agg #[.int .i64 Z.ti, .int .i64 Z.pc, .int .i64 Z.rc, .int .i64 Z.sq, .int .i64 Z.wo, .int .i64 Z.lk, .int .i64 Z.cu, .int .i64 Z.pv, .int .i64 Z.nt, .int .i64 Z.mx, .int .i64 Z.ps, .int .i64 Z.rn, .slice ao3 n cap3] from rfl]
    go_upto_region 14 with (fail)
    generalize hW10 : w9.alloc (.cells #[.int .i64 Z.ti, .int .i64 Z.pc, .int .i64 Z.rc, .int .i64 Z.sq, .int .i64 Z.wo, .int .i64 Z.lk, .int .i64 Z.cu, .int .i64 Z.pv, .int .i64 Z.nt, .int .i64 Z.mx, .int .i64 Z.ps, .int .i64 Z.rn, .slice ao3 n cap3] 25) = W10
    have f10 : Below w9.heap.size w9 W10 := by subst hW10; exact (Below.refl _ _).alloc (Nat.le_refl _) _
    have HV10 := Lib.hid (show TX W10 w9.heap.size Z (.slice ao3 n cap3) by subst hW10; exact TX.new w9 Z _)
    have f10' := b9.trans (f10.mono b9.size)
    have HI9 := Lib.hid (i9.keep f10)
    have HL9 := Lib.hid l9
    have HB10 := Lib.hid (HB8.out.trans (f10'.mono HB8.out.size))
    have HT := Lib.hid (HT.out.keep f10')
    obtain ⟨hB8, m8⟩ := HM8.out
    have HBB := Lib.hid hB8
    obtain ⟨v8, mm8⟩ := m8
    have HLP := Lib.hid (show p < W8.heap.size ∧ ∀ g, v8.ownBlock = some g → g < W8.heap.size from ⟨mm8.lt, fun g hg => (mm8.rowLt hg).2⟩)
    have HMM := Lib.hid (mm8.fresh f10')
    clear hW10 f10 f10' b9 i9 l9 n9 hB8 mm8 HM8 HB8 HOB
    generalize w9.heap.size = gv at *
    have C := stepO W10 HMM.out Z ao n cap l (HI.out.keep HB10.out) (by have := HN.out; omega) HC.out HRZ.out (by omega) (by have := HL.out; omega)
    rw [show thV Z (.slice ao n cap) = .agg #[.int .i64 Z.ti, .int .i64 Z.pc, .int .i64 Z.rc, .int .i64 Z.sq, .int .i64 Z.wo, .int .i64 Z.lk, .int .i64 Z.cu, .int .i64 Z.pv, .int .i64 Z.nt, .int .i64 Z.mx, .int .i64 Z.ps, .int .i64 Z.rn, .slice ao n cap] from rfl] at C
    have HCC := Lib.hid C
    have x := HT.out
    have c0 := x.c0
    have c1 := x.c1
    have c2 := x.c2
    have c3 := x.c3
    have c4 := x.c4
    have c5 := x.c5
    have c6 := x.c6
    have c7 := x.c7
    have c8 := x.c8
    have c9 := x.c9
    have c10 := x.c10
    have c11 := x.c11
    have c12 := x.c12
    clear C x
    go_wp2_with fail
    with_reducible refine HCC.out.mono ?_
    clear HCC c0 c1 c2 c3 c4 c5 c6 c7 c8 c9 c10 c11 c12
    rintro e w11 ⟨ao4, cap4, rfl, d11, i11, l11, n11⟩
    have k11 := d11.kept HMM.out
    obtain ⟨m11, b11⟩ := d11.one HMM.out
    have HSC := stp_c (ll : Int) Z zs
    obtain ⟨s2, hs2⟩ : ∃ s, 1 + (ll : Int) + (stp (ll : Int) Z zs).c = s := ⟨_, rfl⟩
    have HI11 := Lib.hid (HI9.out.did (v' := v8) HMM.out d11 HL9.out HLP.out.1 HLP.out.2)
    have HT := Lib.hid (HT.out.off k11)
    have HV10 := Lib.hid (HV10.out.off k11)
    have HB11 := Lib.hid (HB10.out.trans (b11.mono HBB.out))
    rw [hs2] at m11
    have HSP := Lib.hid (steps1 m11)
    have y0 : 1 + (ll : Int) ≤ s2 := by omega
    have y1 : s2 ≤ 1 + (ll : Int) + 1 := by omega
    have y2 : (ll : Int) ≤ 150 := by have := HL.out; omega
    clear d11 i11 l11 n11 k11 m11 b11 HSC hs2 HI9 HL9 HLP HMM HB10 HBB
    have HIB := Lib.hid (show IB1 w gb gv ao ao3 n cap cap3 l Z w11 from ⟨HT.out, HV10.out, HI.out.keep HB11.out, HI11.out, HB11.out⟩)
    clear HT HV10 HI11 HB11
    go_wp2_with fail
    with_reducible refine HSP.out.mono ?_
    clear HSP
    rintro e w' ⟨rfl, rfl⟩
    go_upto_region 16 with (fail)
    have z0 : (0 : Int) ≤ s2 - (1 + (ll : Int)) := by omega
    have z1 : s2 - (1 + (ll : Int)) ≤ 1 := by omega
    clear y0 y1 y2
    have HN1 := Lib.hid (fun (V : World) (h : IB1 w gb gv ao ao3 n cap cap3 l Z V) => h.same (by have := HN.out; omega))
    go_wp2_with fail
    with_reducible refine HIB.out.known.mono ?_
    rintro e W12 ⟨rfl, s12⟩
    have i0 := s12.cells
    have HS12 := Lib.hid s12
    clear s12 HIB
    go_wp2_with fail
    with_reducible refine (HN1.out _ HS12.out).mono ?_
    rintro e W13 ⟨rfl, s13⟩
    have HF := Lib.hid s13
    clear s13 i0 HS12 HN1
    go_wp2
    go_ret
    exact ⟨by simp, HF.out.lo⟩
  · have h1 : decide (1 ≤ t.pc) = true := decide_eq_true hp.1
    have h2 : decide (t.pc ≤ 16) = false := decide_eq_false (by omega)
    have HP := Lib.hid (show t.pc < 1 ∨ 16 < t.pc from .inr hp.2)
    clear hp
    go_upto_region 8 with (fail)
    obtain ⟨T1, hT1⟩ : ∃ T1, t = T1 := ⟨_, rfl⟩
    rw [hT1] at HP HT HRR
    have HR1 := HRR
    obtain ⟨W3, hW3⟩ : ∃ W3, W2 = W3 := ⟨_, rfl⟩
    rw [hW3] at HM HT HOB HB ⊢
    clear h1 h2 hT1 hW3 q0' xf
    obtain ⟨B, hB, m⟩ := HM.out
    have HBB := Lib.hid hB
    have HSP := Lib.hid (steps1 m)
    obtain ⟨v0, mm⟩ := m
    have HMM := Lib.hid mm
    clear hB mm HM
    go_wp2_with fail
    with_reducible refine HSP.out.mono ?_
    clear HSP
    rintro e w' ⟨rfl, rfl⟩
    have C := stepO W3 HMM.out T1 ao n cap l (HI.out.keep HB.out) (by have := HN.out; omega) HC.out HR1.out (by omega) (by have := HL.out; omega)
    rw [show thV T1 (.slice ao n cap) = .agg #[.int .i64 T1.ti, .int .i64 T1.pc, .int .i64 T1.rc, .int .i64 T1.sq, .int .i64 T1.wo, .int .i64 T1.lk, .int .i64 T1.cu, .int .i64 T1.pv, .int .i64 T1.nt, .int .i64 T1.mx, .int .i64 T1.ps, .int .i64 T1.rn, .slice ao n cap] from rfl] at C
    have HCC := Lib.hid C
    have x := HT.out
    have c0 := x.c0
    have c1 := x.c1
    have c2 := x.c2
    have c3 := x.c3
    have c4 := x.c4
    have c5 := x.c5
    have c6 := x.c6
    have c7 := x.c7
    have c8 := x.c8
    have c9 := x.c9
    have c10 := x.c10
    have c11 := x.c11
    have c12 := x.c12
    clear C x
    go_wp2_with fail
    with_reducible refine HCC.out.mono ?_
    clear HCC c0 c1 c2 c3 c4 c5 c6 c7 c8 c9 c10 c11 c12
    rintro e w4 ⟨ao', cap', rfl, d4, i4, l4, n4⟩
    rw [show (stp (ll : Int) T1 zs).t = T1 by rw [stp_idle _ zs HP.out], show (stp (ll : Int) T1 zs).k = 0 by rw [stp_idle _ zs HP.out], show (stp (ll : Int) T1 zs).v = 0 by rw [stp_idle _ zs HP.out], show (stp (ll : Int) T1 zs).d = false by rw [stp_idle _ zs HP.out], show thV T1 (.slice ao' n cap') = .agg #[.int .i64 T1.ti, .int .i64 T1.pc, .int .i64 T1.rc, .int .i64 T1.sq, .int .i64 T1.wo, .int .i64 T1.lk, .int .i64 T1.cu, .int .i64 T1.pv, .int .i64 T1.nt, .int .i64 T1.mx, .int .i64 T1.ps, .int .i64 T1.rn, .slice ao' n cap'] from rfl]
    rw [show (stp (ll : Int) T1 zs).zs = zs by rw [stp_idle _ zs HP.out], show (stp (ll : Int) T1 zs).c = 0 by rw [stp_idle _ zs HP.out], Int.add_zero] at d4
    have k4 := d4.kept HMM.out
    obtain ⟨m4, b4⟩ := d4.one HMM.out
    have HT := Lib.hid (HT.out.off k4)
    have HOB := Lib.hid (HOB.out.off k4)
    have HB := Lib.hid (HB.out.trans (b4.mono HBB.out))
    have HM4 := Lib.hid m4
    have HI4 := Lib.hid i4
    clear d4 i4 l4 n4 k4 m4 b4 HMM
    go_upto_region 10 with (fail)
    generalize hW5 : (w4.alloc (.cells #[.int .i64 T1.ti, .int .i64 T1.pc, .int .i64 T1.rc, .int .i64 T1.sq, .int .i64 T1.wo, .int .i64 T1.lk, .int .i64 T1.cu, .int .i64 T1.pv, .int .i64 T1.nt, .int .i64 T1.mx, .int .i64 T1.ps, .int .i64 T1.rn, .slice ao' n cap'] 25)).alloc (.cells #[.int .u8 0, .int .i32 0] 49) = W5
    have f5 : Below w4.heap.size w4 W5 := by subst hW5; exact ((Below.refl _ _).alloc (Nat.le_refl _) _).alloc (by simp) _
    have hu : TX W5 w4.heap.size T1 (.slice ao' n cap') := by subst hW5; exact (TX.new w4 T1 _).alloc _
    have hr : RB W5 (w4.heap.size + 1) 0 0 := by
      subst hW5
      have := RB.new (w4.alloc (.cells #[.int .i64 T1.ti, .int .i64 T1.pc, .int .i64 T1.rc, .int .i64 T1.sq, .int .i64 T1.wo, .int .i64 T1.lk, .int .i64 T1.cu, .int .i64 T1.pv, .int .i64 T1.nt, .int .i64 T1.mx, .int .i64 T1.ps, .int .i64 T1.rn, .slice ao' n cap'] 25)) 0 0
      simpa using this
    have HB := Lib.hid (HB.out.trans (f5.mono HB.out.size))
    have HOB := Lib.hid (HOB.out.keep f5)
    have HIA := Lib.hid (show IA1 w p w.heap.size w4.heap.size (w4.heap.size + 1) (w.heap.size + 1) k v al ll zs (1 + (ll : Int)) (ll : Int) ao ao' n cap cap' l T1 W5 from
      ⟨⟨B, HBB.out, HM4.out.keep f5⟩, HT.out.keep f5, hu, hr, HOB.out, HZ.out.1.keep HB.out, HI.out.keep HB.out, HI4.out.keep f5, HB.out⟩)
    clear hW5 f5 hu hr HM4 HI4 HBB HT
    generalize w4.heap.size + 1 = gx at *
    generalize w4.heap.size = gu at *
    have HC1 := Lib.hid (fun (V : World) (h : IA1 w p w.heap.size gu gx (w.heap.size + 1) k v al ll zs (1 + (ll : Int)) (ll : Int) ao ao' n cap cap' l T1 V) => h.same (by have := HN.out; omega))
    have HC2 := Lib.hid (fun (V : World) (h : IA1 w p w.heap.size gu gx (w.heap.size + 1) k v al ll zs (1 + (ll : Int)) (ll : Int) ao ao' n cap cap' l T1 V) => h.steps)
    have HC3 := Lib.hid (fun (V : World) (h : IA1 w p w.heap.size gu gx (w.heap.size + 1) k v al ll zs (1 + (ll : Int)) (ll : Int) ao ao' n cap cap' l T1 V) => h.told)
    have HC4 := Lib.hid (fun (V : World) (g : Option Addr) (h : IA1 w p w.heap.size gu gx (w.heap.size + 1) k v al ll zs (1 + (ll : Int)) (ll : Int) ao ao' n cap cap' l T1 V) (r : Reads .i64 V g ll zs) => h.sameC cl r HL.out)
    have heq := eqRes 0 0
    have i0 := HIA.out.cells
    go_wp2_with fail
    with_reducible refine (HC1.out _ HIA.out).mono ?_
    rintro e V1 ⟨rfl, s1⟩
    clear i0 HIA HC1
    have HI1 := Lib.hid s1
    have i0 := s1.cells
    clear s1
    go_wp2_with fail
    with_reducible refine (HC2.out _ HI1.out).mono ?_
    rintro e w' ⟨rfl, rfl⟩
    clear HC2
    go_wp2_with fail
    with_reducible refine (HC3.out _ HI1.out).mono ?_
    rintro e V3 ⟨rfl, r3, s3⟩
    clear i0 HI1 HC3
    have HI3 := Lib.hid s3
    have HR3 := Lib.hid r3
    clear s3 r3
    go_wp2_with fail
    with_reducible refine (HC4.out _ _ HI3.out HR3.out).mono ?_
    rintro e V4 ⟨rfl, s4⟩
    clear HI3 HR3 HC4 heq
    have HF := Lib.hid s4
    clear s4
    go_upto_region 11 with (fail)
    have x := HF.out.ft
    have c0 := x.c0
    have c1 := x.c1
    have c2 := x.c2
    have c3 := x.c3
    have c4 := x.c4
    have c5 := x.c5
    have c6 := x.c6
    have c7 := x.c7
    have c8 := x.c8
    have c9 := x.c9
    have c10 := x.c10
    have c11 := x.c11
    have c12 := x.c12
    clear x
    go_upto_region 12 with (fail)
    generalize hW7 : V4.alloc (.cells #[.int .i64 T1.ti, .int .i64 T1.pc, .int .i64 T1.rc, .int .i64 T1.sq, .int .i64 T1.wo, .int .i64 T1.lk, .int .i64 T1.cu, .int .i64 T1.pv, .int .i64 T1.nt, .int .i64 T1.mx, .int .i64 T1.ps, .int .i64 T1.rn, .slice ao n cap] 25) = W7
    have f7 : Below V4.heap.size V4 W7 := by subst hW7; exact (Below.refl _ _).alloc (Nat.le_refl _) _
    have hx7 : TX W7 V4.heap.size T1 (.slice ao n cap) := by subst hW7; exact TX.new V4 T1 _
    clear hW7 c0 c1 c2 c3 c4 c5 c6 c7 c8 c9 c10 c11 c12
    obtain ⟨gb, hgb⟩ : ∃ g, V4.heap.size = g := ⟨_, rfl⟩
    have xf := hx7.f
    have x1 := hx7.c1
    rw [hgb] at f7 hx7 xf x1 ⊢
    have HGB := Lib.hid hgb
    clear hgb
    have HX7 := Lib.hid hx7
    have HF7 := Lib.hid f7
    clear hx7 f7
    go_upto_region 13 with (fail)
    generalize hV : World.setCell W7 ⟨gb, 1, none⟩ (.int .i64 _) = W8
    obtain ⟨Z, hx, hpc, hrc⟩ : ∃ Z, TX W8 gb Z (.slice ao n cap) ∧ ¬ Z.pc = 0 ∧ Z.rc = T1.rc := by subst hV; exact ⟨_, HX7.out.s1 _, by simp; omega, rfl⟩
    have b8 : Below V4.heap.size V4 W8 := by
      subst hV
      rw [HGB.out]
      exact HF7.out.setCell (Nat.le_refl _) _
    have HB8 := Lib.hid (HF.out.lo.trans (b8.mono HF.out.lo.size))
    have HOB := Lib.hid (HF.out.fo.keep b8)
    obtain ⟨B8, hB8, m7⟩ := HF.out.fd
    have HM8 := Lib.hid (And.intro hB8 (m7.keep b8))
    have HT := Lib.hid hx
    have HPZ := Lib.hid hpc
    have HRZ := Lib.hid (show ad Z.rc 0 = Z.rc by rw [hrc]; exact HR1.out)
    clear hV hx hpc hrc b8 hB8 m7 HF HX7 HF7 xf x1 HB
    have C := beginO W8 Z ao n cap l (HI.out.keep HB8.out) (by have := HN.out; omega) HC.out k v HO.out
    unfold BeginPost at C
    rw [bgT_no _ HPZ.out, show (Z.pc == 0) = false by simpa using HPZ.out, show thV Z (.slice ao n cap) = .agg #[.int .i64 Z.ti, .int .i64 Z.pc, .int .i64 Z.rc, .int .i64 Z.sq, .int .i64 Z.wo, .int .i64 Z.lk, .int .i64 Z.cu, .int .i64 Z.pv, .int .i64 Z.nt, .int .i64 Z.mx, .int .i64 Z.ps, .int .i64 Z.rn, .slice ao n cap] from rfl] at C
    have HCC := Lib.hid C
    have x := HT.out
    have c0 := x.c0
    have c1 := x.c1
    have c2 := x.c2
    have c3 := x.c3
    have c4 := x.c4
    have c5 := x.c5
    have c6 := x.c6
    have c7 := x.c7
    have c8 := x.c8
    have c9 := x.c9
    have c10 := x.c10
    have c11 := x.c11
    have c12 := x.c12
    have o0 := HOB.out.c0
    have o1 := HOB.out.c1
    clear C x
    go_wp2_with fail
    with_reducible refine HCC.out.mono ?_
    clear HCC c0 c1 c2 c3 c4 c5 c6 c7 c8 c9 c10 c11 c12 o0 o1
    rintro e w9 ⟨ao3, cap3, rfl, i9, l9, b9, n9⟩
    rw [show thV Z (.slice ao3 n cap3) = .agg #[.int .i64 Z.ti, .int .i64 Z.pc, .int .i64 Z.rc, .int .i64 Z.sq, .int .i64 Z.wo, .int .i64 Z.lk, .int .i64 Z.cu, .int .i64 Z.pv, .int .i64 Z.nt, .int .i64 Z.mx, .int .i64 Z.ps, .int .i64 Z.rn, .slice ao3 n cap3] from rfl]
    go_upto_region 14 with (fail)
    generalize hW10 : w9.alloc (.cells #[.int .i64 Z.ti, .int .i64 Z.pc, .int .i64 Z.rc, .int .i64 Z.sq, .int .i64 Z.wo, .int .i64 Z.lk, .int .i64 Z.cu, .int .i64 Z.pv, .int .i64 Z.nt, .int .i64 Z.mx, .int .i64 Z.ps, .int .i64 Z.rn, .slice ao3 n cap3] 25) = W10
    have f10 : Below w9.heap.size w9 W10 := by subst hW10; exact (Below.refl _ _).alloc (Nat.le_refl _) _
    have HV10 := Lib.hid (show TX W10 w9.heap.size Z (.slice ao3 n cap3) by subst hW10; exact TX.new w9 Z _)
    have f10' := b9.trans (f10.mono b9.size)
    have HI9 := Lib.hid (i9.keep f10)
    have HL9 := Lib.hid l9
    have HB10 := Lib.hid (HB8.out.trans (f10'.mono HB8.out.size))
    have HT := Lib.hid (HT.out.keep f10')
    obtain ⟨hB8, m8⟩ := HM8.out
    have HBB := Lib.hid hB8
    obtain ⟨v8, mm8⟩ := m8
    have HLP := Lib.hid (show p < W8.heap.size ∧ ∀ g, v8.ownBlock = some g → g < W8.heap.size from ⟨mm8.lt, fun g hg => (mm8.rowLt hg).2⟩)
    have HMM := Lib.hid (mm8.fresh f10')
    clear hW10 f10 f10' b9 i9 l9 n9 hB8 mm8 HM8 HB8 HOB
    generalize w9.heap.size = gv at *
    have C := stepO W10 HMM.out Z ao n cap l (HI.out.keep HB10.out) (by have := HN.out; omega) HC.out HRZ.out (by omega) (by have := HL.out; omega)
    rw [show thV Z (.slice ao n cap) = .agg #[.int .i64 Z.ti, .int .i64 Z.pc, .int .i64 Z.rc, .int .i64 Z.sq, .int .i64 Z.wo, .int .i64 Z.lk, .int .i64 Z.cu, .int .i64 Z.pv, .int .i64 Z.nt, .int .i64 Z.mx, .int .i64 Z.ps, .int .i64 Z.rn, .slice ao n cap] from rfl] at C
    have HCC := Lib.hid C
    have x := HT.out
    have c0 := x.c0
    have c1 := x.c1
    have c2 := x.c2
    have c3 := x.c3
    have c4 := x.c4
    have c5 := x.c5
    have c6 := x.c6
    have c7 := x.c7
    have c8 := x.c8
    have c9 := x.c9
    have c10 := x.c10
    have c11 := x.c11
    have c12 := x.c12
    clear C x
    go_wp2_with fail
    with_reducible refine HCC.out.mono ?_
    clear HCC c0 c1 c2 c3 c4 c5 c6 c7 c8 c9 c10 c11 c12
    rintro e w11 ⟨ao4, cap4, rfl, d11, i11, l11, n11⟩
    have k11 := d11.kept HMM.out
    obtain ⟨m11, b11⟩ := d11.one HMM.out
    have HSC := stp_c (ll : Int) Z zs
    obtain ⟨s2, hs2⟩ : ∃ s, 1 + (ll : Int) + (stp (ll : Int) Z zs).c = s := ⟨_, rfl⟩
    have HI11 := Lib.hid (HI9.out.did (v' := v8) HMM.out d11 HL9.out HLP.out.1 HLP.out.2)
    have HT := Lib.hid (HT.out.off k11)
    have HV10 := Lib.hid (HV10.out.off k11)
    have HB11 := Lib.hid (HB10.out.trans (b11.mono HBB.out))
    rw [hs2] at m11
    have HSP := Lib.hid (steps1 m11)
    have y0 : 1 + (ll : Int) ≤ s2 := by omega
    have y1 : s2 ≤ 1 + (ll : Int) + 1 := by omega
    have y2 : (ll : Int) ≤ 150 := by have := HL.out; omega
    clear d11 i11 l11 n11 k11 m11 b11 HSC hs2 HI9 HL9 HLP HMM HB10 HBB
    have HIB := Lib.hid (show IB1 w gb gv ao ao3 n cap cap3 l Z w11 from ⟨HT.out, HV10.out, HI.out.keep HB11.out, HI11.out, HB11.out⟩)
    clear HT HV10 HI11 HB11
    go_wp2_with fail
    with_reducible refine HSP.out.mono ?_
    clear HSP
    rintro e w' ⟨rfl, rfl⟩
    go_upto_region 16 with (fail)
    have z0 : (0 : Int) ≤ s2 - (1 + (ll : Int)) := by omega
    have z1 : s2 - (1 + (ll : Int)) ≤ 1 := by omega
    clear y0 y1 y2
    have HN1 := Lib.hid (fun (V : World) (h : IB1 w gb gv ao ao3 n cap cap3 l Z V) => h.same (by have := HN.out; omega))
    go_wp2_with fail
    with_reducible refine HIB.out.known.mono ?_
    rintro e W12 ⟨rfl, s12⟩
    have i0 := s12.cells
    have HS12 := Lib.hid s12
    clear s12 HIB
    go_wp2_with fail
    with_reducible refine (HN1.out _ HS12.out).mono ?_
    rintro e W13 ⟨rfl, s13⟩
    have HF := Lib.hid s13
    clear s13 i0 HS12 HN1
    go_wp2
    go_ret
    exact ⟨by simp, HF.out.lo⟩
  · have h1 : decide (1 ≤ t.pc) = true := decide_eq_true hp.1
    have h2 : decide (t.pc ≤ 16) = true := decide_eq_true hp.2
    obtain ⟨hp1, hp2⟩ := hp
    go_upto_region 8 with (fail)
    generalize hV : World.setCell W2 ⟨w.heap.size, 1, none⟩ (.int .i64 _) = W3
    obtain ⟨T1, hx, hpc, hrc⟩ : ∃ T', TX W3 w.heap.size T' (.slice ao n cap) ∧ 16 < T'.pc ∧ T'.rc = t.rc := by subst hV; exact ⟨_, HT.out.s1 _, by simp; omega, rfl⟩
    have HM := Lib.hid (show ∃ B, w.heap.size ≤ B ∧ Mem1 W3 B p (ll : Int) zs (1 + (ll : Int)) by
      obtain ⟨B, hB, m⟩ := HM.out
      subst hV
      exact ⟨B, hB, m.setC HT.out rfl _⟩)
    have HOB := Lib.hid (show OBx W3 (w.heap.size + 1) k v by subst hV; exact (Below.heap_setCell _ _ _ _ (by simp)).trans HOB.out)
    have HB := Lib.hid (show Below w.heap.size w W3 by subst hV; exact HB.out.setCell (Nat.le_refl _) _)
    have HT := Lib.hid hx
    have HP := Lib.hid (show T1.pc < 1 ∨ 16 < T1.pc from .inr hpc)
    have HR1 := Lib.hid (show ad T1.rc 0 = T1.rc by rw [hrc]; exact HRR.out)
    clear hV hx hpc hrc h1 h2 hp1 hp2 q0' xf
    obtain ⟨B, hB, m⟩ := HM.out
    have HBB := Lib.hid hB
    have HSP := Lib.hid (steps1 m)
    obtain ⟨v0, mm⟩ := m
    have HMM := Lib.hid mm
    clear hB mm HM
    go_wp2_with fail
    with_reducible refine HSP.out.mono ?_
    clear HSP
    rintro e w' ⟨rfl, rfl⟩
    have C := stepO W3 HMM.out T1 ao n cap l (HI.out.keep HB.out) (by have := HN.out; omega) HC.out HR1.out (by omega) (by have := HL.out; omega)
    rw [show thV T1 (.slice ao n cap) = .agg #[.int .i64 T1.ti, .int .i64 T1.pc, .int .i64 T1.rc, .int .i64 T1.sq, .int .i64 T1.wo, .int .i64 T1.lk, .int .i64 T1.cu, .int .i64 T1.pv, .int .i64 T1.nt, .int .i64 T1.mx, .int .i64 T1.ps, .int .i64 T1.rn, .slice ao n cap] from rfl] at C
    have HCC := Lib.hid C
    have x := HT.out
    have c0 := x.c0
    have c1 := x.c1
    have c2 := x.c2
    have c3 := x.c3
    have c4 := x.c4
    have c5 := x.c5
    have c6 := x.c6
    have c7 := x.c7
    have c8 := x.c8
    have c9 := x.c9
    have c10 := x.c10
    have c11 := x.c11
    have c12 := x.c12
    clear C x
    go_wp2_with fail
    with_reducible refine HCC.out.mono ?_
    clear HCC c0 c1 c2 c3 c4 c5 c6 c7 c8 c9 c10 c11 c12
    rintro e w4 ⟨ao', cap', rfl, d4, i4, l4, n4⟩
    rw [show (stp (ll : Int) T1 zs).t = T1 by rw [stp_idle _ zs HP.out], show (stp (ll : Int) T1 zs).k = 0 by rw [stp_idle _ zs HP.out], show (stp (ll : Int) T1 zs).v = 0 by rw [stp_idle _ zs HP.out], show (stp (ll : Int) T1 zs).d = false by rw [stp_idle _ zs HP.out], show thV T1 (.slice ao' n cap') = .agg #[.int .i64 T1.ti, .int .i64 T1.pc, .int .i64 T1.rc, .int .i64 T1.sq, .int .i64 T1.wo, .int .i64 T1.lk, .int .i64 T1.cu, .int .i64 T1.pv, .int .i64 T1.nt, .int .i64 T1.mx, .int .i64 T1.ps, .int .i64 T1.rn, .slice ao' n cap'] from rfl]
    rw [show (stp (ll : Int) T1 zs).zs = zs by rw [stp_idle _ zs HP.out], show (stp (ll : Int) T1 zs).c = 0 by rw [stp_idle _ zs HP.out], Int.add_zero] at d4
    have k4 := d4.kept HMM.out
    obtain ⟨m4, b4⟩ := d4.one HMM.out
    have HT := Lib.hid (HT.out.off k4)
    have HOB := Lib.hid (HOB.out.off k4)
    have HB := Lib.hid (HB.out.trans (b4.mono HBB.out))
    have HM4 := Lib.hid m4
    have HI4 := Lib.hid i4
    clear d4 i4 l4 n4 k4 m4 b4 HMM
    go_upto_region 10 with (fail)
    generalize hW5 : (w4.alloc (.cells #[.int .i64 T1.ti, .int .i64 T1.pc, .int .i64 T1.rc, .int .i64 T1.sq, .int .i64 T1.wo, .int .i64 T1.lk, .int .i64 T1.cu, .int .i64 T1.pv, .int .i64 T1.nt, .int .i64 T1.mx, .int .i64 T1.ps, .int .i64 T1.rn, .slice ao' n cap'] 25)).alloc (.cells #[.int .u8 0, .int .i32 0] 49) = W5
    have f5 : Below w4.heap.size w4 W5 := by subst hW5; exact ((Below.refl _ _).alloc (Nat.le_refl _) _).alloc (by simp) _
    have hu : TX W5 w4.heap.size T1 (.slice ao' n cap') := by subst hW5; exact (TX.new w4 T1 _).alloc _
    have hr : RB W5 (w4.heap.size + 1) 0 0 := by
      subst hW5
      have := RB.new (w4.alloc (.cells #[.int .i64 T1.ti, .int .i64 T1.pc, .int .i64 T1.rc, .int .i64 T1.sq, .int .i64 T1.wo, .int .i64 T1.lk, .int .i64 T1.cu, .int .i64 T1.pv, .int .i64 T1.nt, .int .i64 T1.mx, .int .i64 T1.ps, .int .i64 T1.rn, .slice ao' n cap'] 25)) 0 0
      simpa using this
    have HB := Lib.hid (HB.out.trans (f5.mono HB.out.size))
    have HOB := Lib.hid (HOB.out.keep f5)
    have HIA := Lib.hid (show IA1 w p w.heap.size w4.heap.size (w4.heap.size + 1) (w.heap.size + 1) k v al ll zs (1 + (ll : Int)) (ll : Int) ao ao' n cap cap' l T1 W5 from
      ⟨⟨B, HBB.out, HM4.out.keep f5⟩, HT.out.keep f5, hu, hr, HOB.out, HZ.out.1.keep HB.out, HI.out.keep HB.out, HI4.out.keep f5, HB.out⟩)
    clear hW5 f5 hu hr HM4 HI4 HBB HT
    generalize w4.heap.size + 1 = gx at *
    generalize w4.heap.size = gu at *
    have HC1 := Lib.hid (fun (V : World) (h : IA1 w p w.heap.size gu gx (w.heap.size + 1) k v al ll zs (1 + (ll : Int)) (ll : Int) ao ao' n cap cap' l T1 V) => h.same (by have := HN.out; omega))
    have HC2 := Lib.hid (fun (V : World) (h : IA1 w p w.heap.size gu gx (w.heap.size + 1) k v al ll zs (1 + (ll : Int)) (ll : Int) ao ao' n cap cap' l T1 V) => h.steps)
    have HC3 := Lib.hid (fun (V : World) (h : IA1 w p w.heap.size gu gx (w.heap.size + 1) k v al ll zs (1 + (ll : Int)) (ll : Int) ao ao' n cap cap' l T1 V) => h.told)
    have HC4 := Lib.hid (fun (V : World) (g : Option Addr) (h : IA1 w p w.heap.size gu gx (w.heap.size + 1) k v al ll zs (1 + (ll : Int)) (ll : Int) ao ao' n cap cap' l T1 V) (r : Reads .i64 V g ll zs) => h.sameC cl r HL.out)
    have heq := eqRes 0 0
    have i0 := HIA.out.cells
    go_wp2_with fail
    with_reducible refine (HC1.out _ HIA.out).mono ?_
    rintro e V1 ⟨rfl, s1⟩
    clear i0 HIA HC1
    have HI1 := Lib.hid s1
    have i0 := s1.cells
    clear s1
    go_wp2_with fail
    with_reducible refine (HC2.out _ HI1.out).mono ?_
    rintro e w' ⟨rfl, rfl⟩
    clear HC2
    go_wp2_with fail
    with_reducible refine (HC3.out _ HI1.out).mono ?_
    rintro e V3 ⟨rfl, r3, s3⟩
    clear i0 HI1 HC3
    have HI3 := Lib.hid s3
    have HR3 := Lib.hid r3
    clear s3 r3
    go_wp2_with fail
    with_reducible refine (HC4.out _ _ HI3.out HR3.out).mono ?_
    rintro e V4 ⟨rfl, s4⟩
    clear HI3 HR3 HC4 heq
    have HF := Lib.hid s4
    clear s4
    go_upto_region 11 with (fail)
    have x := HF.out.ft
    have c0 := x.c0
    have c1 := x.c1
    have c2 := x.c2
    have c3 := x.c3
    have c4 := x.c4
    have c5 := x.c5
    have c6 := x.c6
    have c7 := x.c7
    have c8 := x.c8
    have c9 := x.c9
    have c10 := x.c10
    have c11 := x.c11
    have c12 := x.c12
    clear x
    go_upto_region 12 with (fail)
    generalize hW7 : V4.alloc (.cells #[.int .i64 T1.ti, .int .i64 T1.pc, .int .i64 T1.rc, .int .i64 T1.sq, .int .i64 T1.wo, .int .i64 T1.lk, .int .i64 T1.cu, .int .i64 T1.pv, .int .i64 T1.nt, .int .i64 T1.mx, .int .i64 T1.ps, .int .i64 T1.rn, .slice ao n cap] 25) = W7
    have f7 : Below V4.heap.size V4 W7 := by subst hW7; exact (Below.refl _ _).alloc (Nat.le_refl _) _
    have hx7 : TX W7 V4.heap.size T1 (.slice ao n cap) := by subst hW7; exact TX.new V4 T1 _
    clear hW7 c0 c1 c2 c3 c4 c5 c6 c7 c8 c9 c10 c11 c12
    obtain ⟨gb, hgb⟩ : ∃ g, V4.heap.size = g := ⟨_, rfl⟩
    have xf := hx7.f
    have x1 := hx7.c1
    rw [hgb] at f7 hx7 xf x1 ⊢
    have HGB := Lib.hid hgb
    clear hgb
    have HX7 := Lib.hid hx7
    have HF7 := Lib.hid f7
    clear hx7 f7
    go_upto_region 13 with (fail)
    generalize hV : World.setCell W7 ⟨gb, 1, none⟩ (.int .i64 _) = W8
    obtain ⟨Z, hx, hpc, hrc⟩ : ∃ Z, TX W8 gb Z (.slice ao n cap) ∧ ¬ Z.pc = 0 ∧ Z.rc = T1.rc := by subst hV; exact ⟨_, HX7.out.s1 _, by simp; omega, rfl⟩
    have b8 : Below V4.heap.size V4 W8 := by
      subst hV
      rw [HGB.out]
      exact HF7.out.setCell (Nat.le_refl _) _
    have HB8 := Lib.hid (HF.out.lo.trans (b8.mono HF.out.lo.size))
    have HOB := Lib.hid (HF.out.fo.keep b8)
    obtain ⟨B8, hB8, m7⟩ := HF.out.fd
    have HM8 := Lib.hid (And.intro hB8 (m7.keep b8))
    have HT := Lib.hid hx
    have HPZ := Lib.hid hpc
    have HRZ := Lib.hid (show ad Z.rc 0 = Z.rc by rw [hrc]; exact HR1.out)
    clear hV hx hpc hrc b8 hB8 m7 HF HX7 HF7 xf x1 HB
    have C := beginO W8 Z ao n cap l (HI.out.keep HB8.out) (by have := HN.out; omega) HC.out k v HO.out
    unfold BeginPost at C
    rw [bgT_no _ HPZ.out, show (Z.pc == 0) = false by simpa using HPZ.out, show thV Z (.slice ao n cap) = .agg #[.int .i64 Z.ti, .int .i64 Z.pc, .int .i64 Z.rc, .int .i64 Z.sq, .int .i64 Z.wo, .int .i64 Z.lk, .int .i64 Z.cu, .int .i64 Z.pv, .int .i64 Z.nt, .int .i64 Z.mx, .int .i64 Z.ps, .int .i64 Z.rn, .slice ao n cap] from rfl] at C
    have HCC := Lib.hid C
    have x := HT.out
    have c0 := x.c0
    have c1 := x.c1
    have c2 := x.c2
    have c3 := x.c3
    have c4 := x.c4
    have c5 := x.c5
    have c6 := x.c6
    have c7 := x.c7
    have c8 := x.c8
    have c9 := x.c9
    have c10 := x.c10
    have c11 := x.c11
    have c12 := x.c12
    have o0 := HOB.out.c0
    have o1 := HOB.out.c1
    clear C x
    go_wp2_with fail
    with_reducible refine HCC.out.mono ?_
    clear HCC c0 c1 c2 c3 c4 c5 c6 c7 c8 c9 c10 c11 c12 o0 o1
    rintro e w9 ⟨ao3, cap3, rfl, i9, l9, b9, n9⟩
    rw [show thV Z (.slice ao3 n cap3) = .agg #[.int .i64 Z.ti, .int .i64 Z.pc, .int .i64 Z.rc, .int .i64 Z.sq, .int .i64 Z.wo, .int .i64 Z.lk, .int .i64 Z.cu, .int .i64 Z.pv, .int .i64 Z.nt, .int .i64 Z.mx, .int .i64 Z.ps, .int .i64 Z.rn, .slice ao3 n cap3] from rfl]
    go_upto_region 14 with (fail)
    generalize hW10 : w9.alloc (.cells #[.int .i64 Z.ti, .int .i64 Z.pc, .int .i64 Z.rc, .int .i64 Z.sq, .int .i64 Z.wo, .int .i64 Z.lk, .int .i64 Z.cu, .int .i64 Z.pv, .int .i64 Z.nt, .int .i64 Z.mx, .int .i64 Z.ps, .int .i64 Z.rn, .slice ao3 n cap3] 25) = W10
    have f10 : Below w9.heap.size w9 W10 := by subst hW10; exact (Below.refl _ _).alloc (Nat.le_refl _) _
    have HV10 := Lib.hid (show TX W10 w9.heap.size Z (.slice ao3 n cap3) by subst hW10; exact TX.new w9 Z _)
    have f10' := b9.trans (f10.mono b9.size)
    have HI9 := Lib.hid (i9.keep f10)
    have HL9 := Lib.hid l9
    have HB10 := Lib.hid (HB8.out.trans (f10'.mono HB8.out.size))
    have HT := Lib.hid (HT.out.keep f10')
    obtain ⟨hB8, m8⟩ := HM8.out
    have HBB := Lib.hid hB8
    obtain ⟨v8, mm8⟩ := m8
    have HLP := Lib.hid (show p < W8.heap.size ∧ ∀ g, v8.ownBlock = some g → g < W8.heap.size from ⟨mm8.lt, fun g hg => (mm8.rowLt hg).2⟩)
    have HMM := Lib.hid (mm8.fresh f10')
    clear hW10 f10 f10' b9 i9 l9 n9 hB8 mm8 HM8 HB8 HOB
    generalize w9.heap.size = gv at *
    have C := stepO W10 HMM.out Z ao n cap l (HI.out.keep HB10.out) (by have := HN.out; omega) HC.out HRZ.out (by omega) (by have := HL.out; omega)
    rw [show thV Z (.slice ao n cap) = .agg #[.int .i64 Z.ti, .int .i64 Z.pc, .int .i64 Z.rc, .int .i64 Z.sq, .int .i64 Z.wo, .int .i64 Z.lk, .int .i64 Z.cu, .int .i64 Z.pv, .int .i64 Z.nt, .int .i64 Z.mx, .int .i64 Z.ps, .int .i64 Z.rn, .slice ao n cap] from rfl] at C
    have HCC := Lib.hid C
    have x := HT.out
    have c0 := x.c0
    have c1 := x.c1
    have c2 := x.c2
    have c3 := x.c3
    have c4 := x.c4
    have c5 := x.c5
    have c6 := x.c6
    have c7 := x.c7
    have c8 := x.c8
    have c9 := x.c9
    have c10 := x.c10
    have c11 := x.c11
    have c12 := x.c12
    clear C x
    go_wp2_with fail
    with_reducible refine HCC.out.mono ?_
    clear HCC c0 c1 c2 c3 c4 c5 c6 c7 c8 c9 c10 c11 c12
    rintro e w11 ⟨ao4, cap4, rfl, d11, i11, l11, n11⟩
    have k11 := d11.kept HMM.out
    obtain ⟨m11, b11⟩ := d11.one HMM.out
    have HSC := stp_c (ll : Int) Z zs
    obtain ⟨s2, hs2⟩ : ∃ s, 1 + (ll : Int) + (stp (ll : Int) Z zs).c = s := ⟨_, rfl⟩
    have HI11 := Lib.hid (HI9.out.did (v' := v8) HMM.out d11 HL9.out HLP.out.1 HLP.out.2)
    have HT := Lib.hid (HT.out.off k11)
    have HV10 := Lib.hid (HV10.out.off k11)
    have HB11 := Lib.hid (HB10.out.trans (b11.mono HBB.out))
    rw [hs2] at m11
    have HSP := Lib.hid (steps1 m11)
    have y0 : 1 + (ll : Int) ≤ s2 := by omega
    have y1 : s2 ≤ 1 + (ll : Int) + 1 := by omega
    have y2 : (ll : Int) ≤ 150 := by have := HL.out; omega
    clear d11 i11 l11 n11 k11 m11 b11 HSC hs2 HI9 HL9 HLP HMM HB10 HBB
    have HIB := Lib.hid (show IB1 w gb gv ao ao3 n cap cap3 l Z w11 from ⟨HT.out, HV10.out, HI.out.keep HB11.out, HI11.out, HB11.out⟩)
    clear HT HV10 HI11 HB11
    go_wp2_with fail
    with_reducible refine HSP.out.mono ?_
    clear HSP
    rintro e w' ⟨rfl, rfl⟩
    go_upto_region 16 with (fail)
    have z0 : (0 : Int) ≤ s2 - (1 + (ll : Int)) := by omega
    have z1 : s2 - (1 + (ll : Int)) ≤ 1 := by omega
    clear y0 y1 y2
    have HN1 := Lib.hid (fun (V : World) (h : IB1 w gb gv ao ao3 n cap cap3 l Z V) => h.same (by have := HN.out; omega))
    go_wp2_with fail
    with_reducible refine HIB.out.known.mono ?_
    rintro e W12 ⟨rfl, s12⟩
    have i0 := s12.cells
    have HS12 := Lib.hid s12
    clear s12 HIB
    go_wp2_with fail
    with_reducible refine (HN1.out _ HS12.out).mono ?_
    rintro e W13 ⟨rfl, s13⟩
    have HF := Lib.hid s13
    clear s13 i0 HS12 HN1
    go_wp2
    go_ret
    exact ⟨by simp, HF.out.lo⟩

end Go.Proofs.Ythefdglocnalhaa.M2
