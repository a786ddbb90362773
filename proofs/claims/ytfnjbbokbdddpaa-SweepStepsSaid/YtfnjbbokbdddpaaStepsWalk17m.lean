/-
  The walk of SweepSteps: for all numbers, threads, ages and choices it answers true and leaves all old memory as it was.
-/
import Derived.Test.YtfnjbbokbdddpaaG0917
import Derived.Test.YtfnjbbokbdddpaaG0817
import Derived.Test.YtfnjbbokbdddpaaKno17m
namespace Go.Proofs.Ytfnjbbokbdddpaa.M2
open Go.RowKit

structure QS (w : World) (gt gs gh gr : Nat) (al : Option Addr) (ll : Nat) (zs : List Int) (a3 : Option Addr) (l3 : Nat) (y3 : List Int) (ao : Option Addr) (n cap : Nat) (l : List (Int × Int × Int)) (t T H R : Th) (W : World) : Prop where
  ft : TX W gt t (.slice ao n cap)
  fs : TX W gs T (.slice ao n cap)
  fh : TX W gh H (.slice ao n cap)
  fr : TX W gr R (.slice ao n cap)
  fz : Reads .i64 W al ll zs
  fy : Reads .i64 W a3 l3 y3
  fi : Its W ao n l
  lo : Below w.heap.size w W
section
variable {w W V : World} {gt gs gh gr : Nat} {al : Option Addr} {ll : Nat} {zs : List Int} {a3 : Option Addr} {l3 : Nat} {y3 : List Int} {ao : Option Addr} {n cap : Nat} {l : List (Int × Int × Int)} {t T H R : Th}
theorem QS.fresh (h : QS w gt gs gh gr al ll zs a3 l3 y3 ao n cap l t T H R W) (hb : Below W.heap.size W V) : QS w gt gs gh gr al ll zs a3 l3 y3 ao n cap l t T H R V :=
  ⟨h.ft.keep hb, h.fs.keep hb, h.fh.keep hb, h.fr.keep hb, h.fz.keep hb, h.fy.keep hb, h.fi.keep hb, h.lo.trans (hb.mono h.lo.size)⟩
theorem QS.cells (h : QS w gt gs gh gr al ll zs a3 l3 y3 ao n cap l t T H R W) : W.cell? ⟨gt, 0, none⟩ = some (.int .i64 t.ti) ∧ W.cell? ⟨gt, 1, none⟩ = some (.int .i64 t.pc) ∧ W.cell? ⟨gt, 2, none⟩ = some (.int .i64 t.rc) ∧ W.cell? ⟨gt, 3, none⟩ = some (.int .i64 t.sq) ∧ W.cell? ⟨gt, 4, none⟩ = some (.int .i64 t.wo) ∧ W.cell? ⟨gt, 5, none⟩ = some (.int .i64 t.lk) ∧ W.cell? ⟨gt, 6, none⟩ = some (.int .i64 t.cu) ∧ W.cell? ⟨gt, 7, none⟩ = some (.int .i64 t.pv) ∧ W.cell? ⟨gt, 8, none⟩ = some (.int .i64 t.nt) ∧ W.cell? ⟨gt, 9, none⟩ = some (.int .i64 t.mx) ∧ W.cell? ⟨gt, 10, none⟩ = some (.int .i64 t.ps) ∧ W.cell? ⟨gt, 11, none⟩ = some (.int .i64 t.rn) ∧ W.cell? ⟨gt, 12, none⟩ = some (.slice ao n cap) ∧ W.cell? ⟨gs, 0, none⟩ = some (.int .i64 T.ti) ∧ W.cell? ⟨gs, 1, none⟩ = some (.int .i64 T.pc) ∧ W.cell? ⟨gs, 2, none⟩ = some (.int .i64 T.rc) ∧ W.cell? ⟨gs, 3, none⟩ = some (.int .i64 T.sq) ∧ W.cell? ⟨gs, 4, none⟩ = some (.int .i64 T.wo) ∧ W.cell? ⟨gs, 5, none⟩ = some (.int .i64 T.lk) ∧ W.cell? ⟨gs, 6, none⟩ = some (.int .i64 T.cu) ∧ W.cell? ⟨gs, 7, none⟩ = some (.int .i64 T.pv) ∧ W.cell? ⟨gs, 8, none⟩ = some (.int .i64 T.nt) ∧ W.cell? ⟨gs, 9, none⟩ = some (.int .i64 T.mx) ∧ W.cell? ⟨gs, 10, none⟩ = some (.int .i64 T.ps) ∧ W.cell? ⟨gs, 11, none⟩ = some (.int .i64 T.rn) ∧ W.cell? ⟨gs, 12, none⟩ = some (.slice ao n cap) ∧ W.cell? ⟨gh, 0, none⟩ = some (.int .i64 H.ti) ∧ W.cell? ⟨gh, 1, none⟩ = some (.int .i64 H.pc) ∧ W.cell? ⟨gh, 2, none⟩ = some (.int .i64 H.rc) ∧ W.cell? ⟨gh, 3, none⟩ = some (.int .i64 H.sq) ∧ W.cell? ⟨gh, 4, none⟩ = some (.int .i64 H.wo) ∧ W.cell? ⟨gh, 5, none⟩ = some (.int .i64 H.lk) ∧ W.cell? ⟨gh, 6, none⟩ = some (.int .i64 H.cu) ∧ W.cell? ⟨gh, 7, none⟩ = some (.int .i64 H.pv) ∧ W.cell? ⟨gh, 8, none⟩ = some (.int .i64 H.nt) ∧ W.cell? ⟨gh, 9, none⟩ = some (.int .i64 H.mx) ∧ W.cell? ⟨gh, 10, none⟩ = some (.int .i64 H.ps) ∧ W.cell? ⟨gh, 11, none⟩ = some (.int .i64 H.rn) ∧ W.cell? ⟨gh, 12, none⟩ = some (.slice ao n cap) ∧ W.cell? ⟨gr, 0, none⟩ = some (.int .i64 R.ti) ∧ W.cell? ⟨gr, 1, none⟩ = some (.int .i64 R.pc) ∧ W.cell? ⟨gr, 2, none⟩ = some (.int .i64 R.rc) ∧ W.cell? ⟨gr, 3, none⟩ = some (.int .i64 R.sq) ∧ W.cell? ⟨gr, 4, none⟩ = some (.int .i64 R.wo) ∧ W.cell? ⟨gr, 5, none⟩ = some (.int .i64 R.lk) ∧ W.cell? ⟨gr, 6, none⟩ = some (.int .i64 R.cu) ∧ W.cell? ⟨gr, 7, none⟩ = some (.int .i64 R.pv) ∧ W.cell? ⟨gr, 8, none⟩ = some (.int .i64 R.nt) ∧ W.cell? ⟨gr, 9, none⟩ = some (.int .i64 R.mx) ∧ W.cell? ⟨gr, 10, none⟩ = some (.int .i64 R.ps) ∧ W.cell? ⟨gr, 11, none⟩ = some (.int .i64 R.rn) ∧ W.cell? ⟨gr, 12, none⟩ = some (.slice ao n cap) :=
  ⟨h.ft.c0, h.ft.c1, h.ft.c2, h.ft.c3, h.ft.c4, h.ft.c5, h.ft.c6, h.ft.c7, h.ft.c8, h.ft.c9, h.ft.c10, h.ft.c11, h.ft.c12, h.fs.c0, h.fs.c1, h.fs.c2, h.fs.c3, h.fs.c4, h.fs.c5, h.fs.c6, h.fs.c7, h.fs.c8, h.fs.c9, h.fs.c10, h.fs.c11, h.fs.c12, h.fh.c0, h.fh.c1, h.fh.c2, h.fh.c3, h.fh.c4, h.fh.c5, h.fh.c6, h.fh.c7, h.fh.c8, h.fh.c9, h.fh.c10, h.fh.c11, h.fh.c12, h.fr.c0, h.fr.c1, h.fr.c2, h.fr.c3, h.fr.c4, h.fr.c5, h.fr.c6, h.fr.c7, h.fr.c8, h.fr.c9, h.fr.c10, h.fr.c11, h.fr.c12⟩
theorem QS.step (h : QS w gt gs gh gr al ll zs a3 l3 y3 ao n cap l t T H R W) {A : Option Addr} {m c : Nat} {ys : List Int} (r : Reads .i64 W A m ys) (hm : m ≤ 150) (X : Th) (hX : ad X.cu 0 = X.cu) (hn : n ≤ 1000) (hc : ao = none → cap = 0) (ag : Int) :
    Calls Try.prog 12 #[.slice A m c, .agg #[.int .i64 X.ti, .int .i64 X.pc, .int .i64 X.rc, .int .i64 X.sq, .int .i64 X.wo, .int .i64 X.lk, .int .i64 X.cu, .int .i64 X.pv, .int .i64 X.nt, .int .i64 X.mx, .int .i64 X.ps, .int .i64 X.rn, .slice ao n cap], .int .i64 ag] W fun e w' => e = .returned (.bool true) ∧ QS w gt gs gh gr al ll zs a3 l3 y3 ao n cap l t T H R w' :=
  (stepLaw A m c ys r hm X ao n cap l h.fi hn hc hX ag).mono fun e w' ⟨he, hb⟩ => ⟨he, h.fresh hb⟩
end

set_option maxRecDepth 100000 in
set_option maxHeartbeats 16000000 in
theorem stepsWalk {w : World} (al : Option Addr) (ll cl : Nat) (zs : List Int) (t : Th) (ao : Option Addr) (n cap : Nat) (l : List (Int × Int × Int)) (ag q : Int) (ac : Option Addr) (nc cc : Nat) (xs : List Int) (hz : ArgInt64s w al ll cl zs) (_ : ll ≤ 140737488351232) (hi : Its w ao n l) (hc : ao = none → cap = 0) (_ : ad t.rc 0 = t.rc) (hcu : ad t.cu 0 = t.cu) (_ : -9223372036854775808 ≤ ag) (_ : ag ≤ 9223372036854775807) (q0 : 0 ≤ q) (q1 : q ≤ 255) (hx : ArgBytes w ac nc cc xs) (_ : nc ≤ 140737488351232) :
    Calls Try.prog 3 #[.slice al ll cl, thV t (.slice ao n cap), .int .i64 ag, .int .u8 q, .slice ac nc cc] w fun e w' => e = .returned (.bool true) ∧ Below w.heap.size w w' := by
  rw [show thV t (.slice ao n cap) = .agg #[.int .i64 t.ti, .int .i64 t.pc, .int .i64 t.rc, .int .i64 t.sq, .int .i64 t.wo, .int .i64 t.lk, .int .i64 t.cu, .int .i64 t.pv, .int .i64 t.nt, .int .i64 t.mx, .int .i64 t.ps, .int .i64 t.rn, .slice ao n cap] from rfl]
  have HZ := Lib.hid hz
  have HX := Lib.hid hx
  have HI := Lib.hid hi
  have HC := Lib.hid hc
  have HCU := Lib.hid hcu
  clear hz hx hi hc hcu
  by_cases hl : 150 < ll
  · have l0 : (150 : Int) < ll := by omega
    go_enter Try.func3, Try.ntmps3
    go_upto_region 1 with (fail)
    generalize hW : w.alloc (.cells #[.int .i64 t.ti, .int .i64 t.pc, .int .i64 t.rc, .int .i64 t.sq, .int .i64 t.wo, .int .i64 t.lk, .int .i64 t.cu, .int .i64 t.pv, .int .i64 t.nt, .int .i64 t.mx, .int .i64 t.ps, .int .i64 t.rn, .slice ao n cap] 25) = W
    have HT := Lib.hid (show TX W w.heap.size t (.slice ao n cap) by subst hW; exact TX.new w t _)
    have HB := Lib.hid (show Below w.heap.size w W by subst hW; exact (Below.refl _ _).alloc (Nat.le_refl _) _)
    have c12 := HT.out.c12
    clear hW
    go_wp2_with fail
    refine (known W).mono ?_
    rintro e w1 ⟨rfl, b1⟩
    have HB1 := Lib.hid (HB.out.trans (b1.mono HB.out.size))
    clear b1
    go_wp2
    go_ret
    exact ⟨rfl, HB1.out⟩
  by_cases hnc : 150 < nc
  · have l0 : (ll : Int) ≤ 150 := by omega
    have l1 : (150 : Int) < nc := by omega
    go_enter Try.func3, Try.ntmps3
    go_upto_region 1 with (fail)
    generalize hW : w.alloc (.cells #[.int .i64 t.ti, .int .i64 t.pc, .int .i64 t.rc, .int .i64 t.sq, .int .i64 t.wo, .int .i64 t.lk, .int .i64 t.cu, .int .i64 t.pv, .int .i64 t.nt, .int .i64 t.mx, .int .i64 t.ps, .int .i64 t.rn, .slice ao n cap] 25) = W
    have HT := Lib.hid (show TX W w.heap.size t (.slice ao n cap) by subst hW; exact TX.new w t _)
    have HB := Lib.hid (show Below w.heap.size w W by subst hW; exact (Below.refl _ _).alloc (Nat.le_refl _) _)
    have c12 := HT.out.c12
    clear hW
    go_wp2_with fail
    refine (known W).mono ?_
    rintro e w1 ⟨rfl, b1⟩
    have HB1 := Lib.hid (HB.out.trans (b1.mono HB.out.size))
    clear b1
    go_wp2
    go_ret
    exact ⟨rfl, HB1.out⟩
  by_cases hn : 20 < n
  · have l0 : (ll : Int) ≤ 150 := by omega
    have l1 : (nc : Int) ≤ 150 := by omega
    have l2 : (20 : Int) < n := by omega
    go_enter Try.func3, Try.ntmps3
    go_upto_region 1 with (fail)
    generalize hW : w.alloc (.cells #[.int .i64 t.ti, .int .i64 t.pc, .int .i64 t.rc, .int .i64 t.sq, .int .i64 t.wo, .int .i64 t.lk, .int .i64 t.cu, .int .i64 t.pv, .int .i64 t.nt, .int .i64 t.mx, .int .i64 t.ps, .int .i64 t.rn, .slice ao n cap] 25) = W
    have HT := Lib.hid (show TX W w.heap.size t (.slice ao n cap) by subst hW; exact TX.new w t _)
    have HB := Lib.hid (show Below w.heap.size w W by subst hW; exact (Below.refl _ _).alloc (Nat.le_refl _) _)
    have c12 := HT.out.c12
    clear hW
    go_wp2_with fail
    refine (known W).mono ?_
    rintro e w1 ⟨rfl, b1⟩
    have HB1 := Lib.hid (HB.out.trans (b1.mono HB.out.size))
    clear b1
    go_wp2
    go_ret
    exact ⟨rfl, HB1.out⟩
  have l0 : (ll : Int) ≤ 150 := by omega
  have l1 : (nc : Int) ≤ 150 := by omega
  have l2 : (n : Int) ≤ 20 := by omega
  have HL := Lib.hid (show ll ≤ 150 by omega)
  have HNC := Lib.hid (show nc ≤ 150 by omega)
  have HN := Lib.hid (show n ≤ 20 by omega)
  clear hl hnc hn
  go_enter Try.func3, Try.ntmps3
  go_upto_region 1 with (fail)
  generalize hW : w.alloc (.cells #[.int .i64 t.ti, .int .i64 t.pc, .int .i64 t.rc, .int .i64 t.sq, .int .i64 t.wo, .int .i64 t.lk, .int .i64 t.cu, .int .i64 t.pv, .int .i64 t.nt, .int .i64 t.mx, .int .i64 t.ps, .int .i64 t.rn, .slice ao n cap] 25) = W
  have HT := Lib.hid (show TX W w.heap.size t (.slice ao n cap) by subst hW; exact TX.new w t _)
  have HB := Lib.hid (show Below w.heap.size w W by subst hW; exact (Below.refl _ _).alloc (Nat.le_refl _) _)
  have c12 := HT.out.c12
  clear hW
  go_wp2_with fail
  refine (known W).mono ?_
  rintro e w1 ⟨rfl, b1⟩
  clear c12
  have HB1 := Lib.hid (HB.out.trans (b1.mono HB.out.size))
  have HT := Lib.hid (HT.out.keep b1)
  have HX1 := Lib.hid (show ArgBytes w1 ac nc cc xs from ⟨HX.out.1.keep HB1.out, HX.out.2⟩)
  clear b1 HB
  go_wp2_with fail
  clear l0 l1 l2
  refine (cellsAll w1 ac nc cc xs HX1.out (by have := HNC.out; omega)).mono ?_
  rintro e w2 ⟨a3, c3, y3, rfl, n3, o3, _⟩
  have r3 := reads_own o3.1
  have HY3 := Lib.hid r3
  have HN3 := Lib.hid n3
  have HB2 := Lib.hid (HB1.out.trans (o3.2.mono HB1.out.size))
  have HT := Lib.hid (HT.out.keep o3.2)
  obtain ⟨l3, hl3⟩ : ∃ m, y3.length = m := ⟨_, rfl⟩
  rw [hl3] at HY3 HN3 ⊢
  clear r3 n3 o3 HX1 HB1 hl3
  have C := tameAny w2 t ao n cap q q0 q1
  rw [show thV t (.slice ao n cap) = .agg #[.int .i64 t.ti, .int .i64 t.pc, .int .i64 t.rc, .int .i64 t.sq, .int .i64 t.wo, .int .i64 t.lk, .int .i64 t.cu, .int .i64 t.pv, .int .i64 t.nt, .int .i64 t.mx, .int .i64 t.ps, .int .i64 t.rn, .slice ao n cap] from rfl] at C
  have HCC := Lib.hid C
  clear C
  have x := HT.out
  have c0 := x.c0
  have c1 := x.c1
  have c2 := x.c2
  have c3 := x.c3
  have c4 := x.c4
  have c5 := x.c5
  have c6 := x.c6
  have c7 := x.c7
  have c8 := x.c8
  have c9 := x.c9
  have c10 := x.c10
  have c11 := x.c11
  have c12 := x.c12
  clear x
  go_wp2_with fail
  with_reducible refine HCC.out.mono ?_
  clear HCC c0 c1 c2 c3 c4 c5 c6 c7 c8 c9 c10 c11 c12
  rintro e w3 ⟨T, rfl, hT, hU, b3⟩
  rw [show thV T (.slice ao n cap) = .agg #[.int .i64 T.ti, .int .i64 T.pc, .int .i64 T.rc, .int .i64 T.sq, .int .i64 T.wo, .int .i64 T.lk, .int .i64 T.cu, .int .i64 T.pv, .int .i64 T.nt, .int .i64 T.mx, .int .i64 T.ps, .int .i64 T.rn, .slice ao n cap] from rfl]
  have HTC := Lib.hid hU
  have HT := Lib.hid (HT.out.keep b3)
  have HY3 := Lib.hid (HY3.out.keep b3)
  have HB3 := Lib.hid (HB2.out.trans (b3.mono HB2.out.size))
  clear b3 hU hT HB2
  go_upto_region 5 with (fail)
  generalize hW4 : w3.alloc (.cells #[.int .i64 T.ti, .int .i64 T.pc, .int .i64 T.rc, .int .i64 T.sq, .int .i64 T.wo, .int .i64 T.lk, .int .i64 T.cu, .int .i64 T.pv, .int .i64 T.nt, .int .i64 T.mx, .int .i64 T.ps, .int .i64 T.rn, .slice ao n cap] 25) = w4
  have f4 : Below w3.heap.size w3 w4 := by subst hW4; exact (Below.refl _ _).alloc (Nat.le_refl _) _
  have HS := Lib.hid (show TX w4 w3.heap.size T (.slice ao n cap) by subst hW4; exact TX.new w3 T _)
  have HT := Lib.hid (HT.out.keep f4)
  have HY3 := Lib.hid (HY3.out.keep f4)
  have HB3 := Lib.hid (HB3.out.trans (f4.mono HB3.out.size))
  clear hW4 f4
  generalize w3.heap.size = gs at *
  have x := HS.out
  have c0 := x.c0
  have c1 := x.c1
  have c2 := x.c2
  have c3 := x.c3
  have c4 := x.c4
  have c5 := x.c5
  have c6 := x.c6
  have c7 := x.c7
  have c8 := x.c8
  have c9 := x.c9
  have c10 := x.c10
  have c11 := x.c11
  have c12 := x.c12
  clear x
  go_upto_region 6 with (fail)
  generalize hW5 : w4.alloc (.cells #[.int .i64 T.ti, .int .i64 T.pc, .int .i64 T.rc, .int .i64 T.sq, .int .i64 T.wo, .int .i64 T.lk, .int .i64 T.cu, .int .i64 T.pv, .int .i64 T.nt, .int .i64 T.mx, .int .i64 T.ps, .int .i64 T.rn, .slice ao n cap] 25) = w5
  have f5 : Below w4.heap.size w4 w5 := by subst hW5; exact (Below.refl _ _).alloc (Nat.le_refl _) _
  have HR := Lib.hid (show TX w5 w4.heap.size T (.slice ao n cap) by subst hW5; exact TX.new w4 T _)
  clear hW5 c0 c1 c2 c3 c4 c5 c6 c7 c8 c9 c10 c11 c12
  have xf := HR.out.f
  have x1 := HR.out.c1
  obtain ⟨gh, hgh⟩ : ∃ g, w4.heap.size = g := ⟨_, rfl⟩
  rw [hgh] at HR xf x1
  go_upto_region 7 with (fail)
  rw [hgh]
  generalize hV : World.setCell w5 ⟨gh, 1, none⟩ (.int .i64 _) = w6
  obtain ⟨H, hx, hcu⟩ : ∃ H, TX w6 gh H (.slice ao n cap) ∧ H.cu = T.cu := by subst hV; exact ⟨_, HR.out.s1 _, rfl⟩
  have b6 : Below w4.heap.size w4 w6 := by
    subst hV
    rw [hgh]
    rw [hgh] at f5
    exact f5.setCell (Nat.le_refl _) _
  have HHC := Lib.hid (show ad H.cu 0 = H.cu by rw [hcu]; exact HTC.out)
  have HH := Lib.hid hx
  have HT := Lib.hid (HT.out.keep b6)
  have HS := Lib.hid (HS.out.keep b6)
  have HY3 := Lib.hid (HY3.out.keep b6)
  have HB3 := Lib.hid (HB3.out.trans (b6.mono HB3.out.size))
  clear hV hx hcu b6 f5 xf x1 HR hgh
  have x := HT.out
  have c0 := x.c0
  have c1 := x.c1
  have c2 := x.c2
  have c3 := x.c3
  have c4 := x.c4
  have c5 := x.c5
  have c6 := x.c6
  have c7 := x.c7
  have c8 := x.c8
  have c9 := x.c9
  have c10 := x.c10
  have c11 := x.c11
  have c12 := x.c12
  clear x
  go_upto_region 8 with (fail)
  generalize hW7 : w6.alloc (.cells #[.int .i64 t.ti, .int .i64 t.pc, .int .i64 t.rc, .int .i64 t.sq, .int .i64 t.wo, .int .i64 t.lk, .int .i64 t.cu, .int .i64 t.pv, .int .i64 t.nt, .int .i64 t.mx, .int .i64 t.ps, .int .i64 t.rn, .slice ao n cap] 25) = w7
  have f7 : Below w6.heap.size w6 w7 := by subst hW7; exact (Below.refl _ _).alloc (Nat.le_refl _) _
  have HR := Lib.hid (show TX w7 w6.heap.size t (.slice ao n cap) by subst hW7; exact TX.new w6 t _)
  clear hW7 c0 c1 c2 c3 c4 c5 c6 c7 c8 c9 c10 c11 c12
  have xf := HR.out.f
  have x1 := HR.out.c1
  obtain ⟨gr, hgr⟩ : ∃ g, w6.heap.size = g := ⟨_, rfl⟩
  rw [hgr] at HR xf x1
  go_upto_region 9 with (fail)
  rw [hgr]
  generalize hV : World.setCell w7 ⟨gr, 1, none⟩ (.int .i64 _) = w8
  obtain ⟨R, hx, hcu⟩ : ∃ R, TX w8 gr R (.slice ao n cap) ∧ R.cu = t.cu := by subst hV; exact ⟨_, HR.out.s1 _, rfl⟩
  have b8 : Below w6.heap.size w6 w8 := by
    subst hV
    rw [hgr]
    rw [hgr] at f7
    exact f7.setCell (Nat.le_refl _) _
  have HRC := Lib.hid (show ad R.cu 0 = R.cu by rw [hcu]; exact HCU.out)
  have HB8 := Lib.hid (HB3.out.trans (b8.mono HB3.out.size))
  have HQ := Lib.hid (show QS w w.heap.size gs gh gr al ll zs a3 l3 y3 ao n cap l t T H R w8 from
    ⟨HT.out.keep b8, HS.out.keep b8, HH.out.keep b8, hx, HZ.out.1.keep HB8.out, HY3.out.keep b8, HI.out.keep HB8.out, HB8.out⟩)
  clear hV hx hcu b8 f7 xf x1 HR HS HH HT HY3 HB3 HZ HI HB8 HX hgr
  obtain ⟨gt, hgt⟩ : ∃ g, w.heap.size = g := ⟨_, rfl⟩
  have HD1 := Lib.hid (fun (V : World) (h : QS w gt gs gh gr al ll zs a3 l3 y3 ao n cap l t T H R V) (a : Int) => h.step (c := cl) h.fz HL.out t HCU.out (by have := HN.out; omega) HC.out a)
  have HD2 := Lib.hid (fun (V : World) (h : QS w gt gs gh gr al ll zs a3 l3 y3 ao n cap l t T H R V) (a : Int) => h.step (c := cl) h.fz HL.out R HRC.out (by have := HN.out; omega) HC.out a)
  have HD3 := Lib.hid (fun (V : World) (h : QS w gt gs gh gr al ll zs a3 l3 y3 ao n cap l t T H R V) (a : Int) => h.step (c := c3) h.fy (by have := HN3.out; omega) T HTC.out (by have := HN.out; omega) HC.out a)
  have HD4 := Lib.hid (fun (V : World) (h : QS w gt gs gh gr al ll zs a3 l3 y3 ao n cap l t T H R V) (a : Int) => h.step (c := c3) h.fy (by have := HN3.out; omega) H HHC.out (by have := HN.out; omega) HC.out a)
  have HD5 := Lib.hid (fun (V : World) (h : QS w gt gs gh gr al ll zs a3 l3 y3 ao n cap l t T H R V) (a : Int) => h.step (c := c3) h.fy (by have := HN3.out; omega) H HHC.out (by have := HN.out; omega) HC.out a)
  rw [hgt] at HQ ⊢
  have HLO := Lib.hid hgt
  clear hgt
  clear HCU HRC HTC HHC HC HL HN HN3 HNC
  have HS0 := HQ
  clear HQ
  have i0 := HS0.out.cells
  go_wp2_with fail
  with_reducible refine (HD1.out _ HS0.out _).mono ?_
  rintro e V1 ⟨rfl, s1⟩
  clear i0 HS0 HD1
  have HS1 := Lib.hid s1
  clear s1
  have i0 := HS1.out.cells
  go_wp2_with fail
  with_reducible refine (HD2.out _ HS1.out _).mono ?_
  rintro e V2 ⟨rfl, s2⟩
  clear i0 HS1 HD2
  have HS2 := Lib.hid s2
  clear s2
  have i0 := HS2.out.cells
  go_wp2_with fail
  with_reducible refine (HD3.out _ HS2.out _).mono ?_
  rintro e V3 ⟨rfl, s3⟩
  clear i0 HS2 HD3
  have HS3 := Lib.hid s3
  clear s3
  have i0 := HS3.out.cells
  go_wp2_with fail
  with_reducible refine (HD4.out _ HS3.out _).mono ?_
  rintro e V4 ⟨rfl, s4⟩
  clear i0 HS3 HD4
  have HS4 := Lib.hid s4
  clear s4
  have i0 := HS4.out.cells
  go_wp2_with fail
  with_reducible refine (HD5.out _ HS4.out _).mono ?_
  rintro e V5 ⟨rfl, s5⟩
  clear i0 HS4 HD5
  have HS5 := Lib.hid s5
  clear s5
  go_wp2
  go_ret
  exact ⟨rfl, HS5.out.lo⟩

end Go.Proofs.Ytfnjbbokbdddpaa.M2
