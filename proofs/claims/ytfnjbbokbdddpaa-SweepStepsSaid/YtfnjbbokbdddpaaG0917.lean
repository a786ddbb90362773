/-
  reaperlaw17.step tells true: Step and Sweeps of package sweep at a memory of whatever numbers are the document's. Conditions: at most 150 numbers; a thread with a batch of at most a thousand items, that lies in memory. Tame of reaperlaw15: whatever thread it is handed, it tells one whose record and whose Cur are addresses that may be added to. Conditions: none.
-/
import Derived.Test.YtfnjbbokbdddpaaGX17
import Derived.Test.YtfnjbbokbdddpaaG0417
import Derived.Test.YtfnjbbokbdddpaaG0817
import Derived.Test.YtfnjbbokbdddpaaG0517
namespace Go.Proofs.Ytfnjbbokbdddpaa.M2
open Go.RowKit

structure SE (w : World) (p gt gu gn gv : Nat) (v : Value) (t T : Th) (ao ao' : Option Addr) (n cap cap' : Nat) (l : List (Int × Int × Int)) (size : Int) (a5 : Option Addr) (len' cu5 : Nat) (zs : List Int) (st : Int) (W : World) : Prop where
  fd : ∃ w0, DM w0 p v (.slice a5 len' cu5) size zs st zs W
  fe : zs.length = len'
  ft : TX W gt t (.slice ao n cap)
  fu : TX W gu T (.slice ao' n cap')
  fn : Boxed W gn (.int .i64 size) (.slice a5 len' cu5) (.int .i64 st)
  fv : TX W gv T (.slice ao n cap)
  i1 : Its W ao n l
  i2 : Its W ao' n l
  lo : Below w.heap.size w W
section
variable {w W V : World} {p gt gu gn gv : Nat} {v : Value} {t T : Th} {ao ao' : Option Addr} {n cap cap' : Nat} {l : List (Int × Int × Int)} {size : Int} {a5 : Option Addr} {len' cu5 : Nat} {zs : List Int} {st : Int}
theorem SE.fresh (h : SE w p gt gu gn gv v t T ao ao' n cap cap' l size a5 len' cu5 zs st W) (hb : Below W.heap.size W V) : SE w p gt gu gn gv v t T ao ao' n cap cap' l size a5 len' cu5 zs st V :=
  ⟨h.fd.imp fun _ d => d.fresh hb, h.fe, h.ft.keep hb, h.fu.keep hb, h.fn.keep hb, h.fv.keep hb, h.i1.keep hb, h.i2.keep hb, h.lo.trans (hb.mono h.lo.size)⟩
theorem SE.cells (h : SE w p gt gu gn gv v t T ao ao' n cap cap' l size a5 len' cu5 zs st W) : W.cell? ⟨gt, 0, none⟩ = some (.int .i64 t.ti) ∧ W.cell? ⟨gt, 1, none⟩ = some (.int .i64 t.pc) ∧ W.cell? ⟨gt, 2, none⟩ = some (.int .i64 t.rc) ∧ W.cell? ⟨gt, 3, none⟩ = some (.int .i64 t.sq) ∧ W.cell? ⟨gt, 4, none⟩ = some (.int .i64 t.wo) ∧ W.cell? ⟨gt, 5, none⟩ = some (.int .i64 t.lk) ∧ W.cell? ⟨gt, 6, none⟩ = some (.int .i64 t.cu) ∧ W.cell? ⟨gt, 7, none⟩ = some (.int .i64 t.pv) ∧ W.cell? ⟨gt, 8, none⟩ = some (.int .i64 t.nt) ∧ W.cell? ⟨gt, 9, none⟩ = some (.int .i64 t.mx) ∧ W.cell? ⟨gt, 10, none⟩ = some (.int .i64 t.ps) ∧ W.cell? ⟨gt, 11, none⟩ = some (.int .i64 t.rn) ∧ W.cell? ⟨gt, 12, none⟩ = some (.slice ao n cap) ∧ W.cell? ⟨gu, 0, none⟩ = some (.int .i64 T.ti) ∧ W.cell? ⟨gu, 1, none⟩ = some (.int .i64 T.pc) ∧ W.cell? ⟨gu, 2, none⟩ = some (.int .i64 T.rc) ∧ W.cell? ⟨gu, 3, none⟩ = some (.int .i64 T.sq) ∧ W.cell? ⟨gu, 4, none⟩ = some (.int .i64 T.wo) ∧ W.cell? ⟨gu, 5, none⟩ = some (.int .i64 T.lk) ∧ W.cell? ⟨gu, 6, none⟩ = some (.int .i64 T.cu) ∧ W.cell? ⟨gu, 7, none⟩ = some (.int .i64 T.pv) ∧ W.cell? ⟨gu, 8, none⟩ = some (.int .i64 T.nt) ∧ W.cell? ⟨gu, 9, none⟩ = some (.int .i64 T.mx) ∧ W.cell? ⟨gu, 10, none⟩ = some (.int .i64 T.ps) ∧ W.cell? ⟨gu, 11, none⟩ = some (.int .i64 T.rn) ∧ W.cell? ⟨gu, 12, none⟩ = some (.slice ao' n cap') ∧ W.cell? ⟨gv, 0, none⟩ = some (.int .i64 T.ti) ∧ W.cell? ⟨gv, 1, none⟩ = some (.int .i64 T.pc) ∧ W.cell? ⟨gv, 2, none⟩ = some (.int .i64 T.rc) ∧ W.cell? ⟨gv, 3, none⟩ = some (.int .i64 T.sq) ∧ W.cell? ⟨gv, 4, none⟩ = some (.int .i64 T.wo) ∧ W.cell? ⟨gv, 5, none⟩ = some (.int .i64 T.lk) ∧ W.cell? ⟨gv, 6, none⟩ = some (.int .i64 T.cu) ∧ W.cell? ⟨gv, 7, none⟩ = some (.int .i64 T.pv) ∧ W.cell? ⟨gv, 8, none⟩ = some (.int .i64 T.nt) ∧ W.cell? ⟨gv, 9, none⟩ = some (.int .i64 T.mx) ∧ W.cell? ⟨gv, 10, none⟩ = some (.int .i64 T.ps) ∧ W.cell? ⟨gv, 11, none⟩ = some (.int .i64 T.rn) ∧ W.cell? ⟨gv, 12, none⟩ = some (.slice ao n cap) ∧ W.cell? ⟨gn, 1, none⟩ = some (.slice a5 len' cu5) ∧ W.cell? ⟨gn, 2, none⟩ = some (.int .i64 st) :=
  ⟨h.ft.c0, h.ft.c1, h.ft.c2, h.ft.c3, h.ft.c4, h.ft.c5, h.ft.c6, h.ft.c7, h.ft.c8, h.ft.c9, h.ft.c10, h.ft.c11, h.ft.c12, h.fu.c0, h.fu.c1, h.fu.c2, h.fu.c3, h.fu.c4, h.fu.c5, h.fu.c6, h.fu.c7, h.fu.c8, h.fu.c9, h.fu.c10, h.fu.c11, h.fu.c12, h.fv.c0, h.fv.c1, h.fv.c2, h.fv.c3, h.fv.c4, h.fv.c5, h.fv.c6, h.fv.c7, h.fv.c8, h.fv.c9, h.fv.c10, h.fv.c11, h.fv.c12, h.fn.c1, h.fn.c2⟩
theorem SE.cellsE (h : SE w p gt gu gn gv v t T ao ao' n cap cap' l size a5 len' cu5 zs st W) :
    Calls Try.prog 18 #[.pointer (some ⟨p, 0, none⟩)] W fun e w' => e = .returned (.slice (some ⟨W.heap.size, 0, none⟩) len' len') ∧ Reads .i64 w' (some ⟨W.heap.size, 0, none⟩) len' zs ∧ SE w p gt gu gn gv v t T ao ao' n cap cap' l size a5 len' cu5 zs st w' := by
  obtain ⟨w0, d⟩ := h.fd
  have C := cells1 ⟨_, d.m⟩
  rw [h.fe] at C
  refine C.mono ?_
  rintro e w' ⟨rfl, o, b⟩
  obtain ⟨aq, cq, e, r, _⟩ := _root_.Go.Proofs.Ytfnjbbokbdddpaa.reads_own o
  simp only [Value.slice.injEq] at e
  obtain ⟨rfl, _, rfl⟩ := e
  exact ⟨rfl, r, h.fresh b⟩
theorem SE.sameE (h : SE w p gt gu gn gv v t T ao ao' n cap cap' l size a5 len' cu5 zs st W) {g : Option Addr} (r : Reads .i64 W g len' zs) :
    Calls Try.prog 23 #[.slice g len' len', .slice a5 len' cu5] W fun e w' => e = .returned (.bool true) ∧ SE w p gt gu gn gv v t T ao ao' n cap cap' l size a5 len' cu5 zs st w' := by
  obtain ⟨w0, d⟩ := h.fd
  have o := d.o
  rw [h.fe] at o
  obtain ⟨aq, cq, e, r2, _⟩ := _root_.Go.Proofs.Ytfnjbbokbdddpaa.reads_own o
  simp only [Value.slice.injEq] at e
  obtain ⟨rfl, _, rfl⟩ := e
  exact (sameEq W g a5 len' len' cu5 zs r r2 (by have := d.m.room; have := d.m.s1; have := h.fe; omega)).mono fun e w' ⟨he, hb⟩ => ⟨he, h.fresh hb⟩
theorem SE.stepsE (h : SE w p gt gu gn gv v t T ao ao' n cap cap' l size a5 len' cu5 zs st W) :
    Calls Try.prog 31 #[.pointer (some ⟨p, 0, none⟩)] W fun e w' => e = .returned (.int .i64 st) ∧ W = w' := by
  obtain ⟨w0, d⟩ := h.fd
  exact steps1 ⟨_, d.m⟩
end

set_option maxRecDepth 100000 in
set_option maxHeartbeats 16000000 in
theorem stepLaw {w : World} (al : Option Addr) (ll cl : Nat) (zs : List Int) (hz : Reads .i64 w al ll zs) (hl : ll ≤ 150) (t : Th) (ao : Option Addr) (n cap : Nat) (l : List (Int × Int × Int)) (hi : Its w ao n l) (hn : n ≤ 1000) (hc : ao = none → cap = 0) (hcu : ad t.cu 0 = t.cu) (ag : Int) :
    Calls Try.prog 12 #[.slice al ll cl, thV t (.slice ao n cap), .int .i64 ag] w fun e w' => e = .returned (.bool true) ∧ Below w.heap.size w w' := by
  rw [show thV t (.slice ao n cap) = .agg #[.int .i64 t.ti, .int .i64 t.pc, .int .i64 t.rc, .int .i64 t.sq, .int .i64 t.wo, .int .i64 t.lk, .int .i64 t.cu, .int .i64 t.pv, .int .i64 t.nt, .int .i64 t.mx, .int .i64 t.ps, .int .i64 t.rn, .slice ao n cap] from rfl]
  obtain rfl : zs.length = ll := hz.1
  have HZ := Lib.hid hz
  have HL := Lib.hid hl
  have HI := Lib.hid hi
  have HN := Lib.hid hn
  have HC := Lib.hid hc
  have HCU := Lib.hid hcu
  clear hz hl hi hn hc hcu
  obtain ⟨len, hlen⟩ : ∃ n, zs.length = n := ⟨_, rfl⟩
  rw [hlen] at HZ HL ⊢
  have HE := Lib.hid hlen
  clear hlen
  go_enter Try.func12, Try.ntmps12
  go_wp2_with fail
  generalize hW : w.alloc (.cells #[.int .i64 t.ti, .int .i64 t.pc, .int .i64 t.rc, .int .i64 t.sq, .int .i64 t.wo, .int .i64 t.lk, .int .i64 t.cu, .int .i64 t.pv, .int .i64 t.nt, .int .i64 t.mx, .int .i64 t.ps, .int .i64 t.rn, .slice ao n cap] 25) = W
  have HT := Lib.hid (show TX W w.heap.size t (.slice ao n cap) by subst hW; exact TX.new w t _)
  have HB := Lib.hid (show Below w.heap.size w W by subst hW; exact (Below.refl _ _).alloc (Nat.le_refl _) _)
  clear hW
  have HZW := Lib.hid (HZ.out.keep HB.out)
  with_reducible refine (memoryTwo W al len cl zs HZW.out (by have := HL.out; omega)).mono ?_
  rintro e w1 ⟨p, u, vv, rfl, m1, o1, n1, b1⟩
  have HD := Lib.hid (show DM W p vv u (len : Int) zs (1 + (len : Int)) zs w1 from ⟨by rw [← HE.out]; exact m1, o1, n1, b1⟩)
  have HT := Lib.hid (HT.out.keep b1)
  obtain ⟨au, cu, eu⟩ := ownShape o1
  rw [HE.out] at eu ⊢
  subst eu
  clear m1 o1 n1 b1 HZW
  go_upto_region 2 with (fail)
  generalize hW2 : w1.alloc (.cells #[.int .i64 (len : Int), .slice au len cu, .int .i64 (1 + (len : Int))] 39) = W2
  have f2 : Below w1.heap.size w1 W2 := by subst hW2; exact (Below.refl _ _).alloc (Nat.le_refl _) _
  have HR := Lib.hid (show Boxed W2 w1.heap.size (.int .i64 (len : Int)) (.slice au len cu) (.int .i64 (1 + (len : Int))) by subst hW2; exact Boxed.new _ _ _ _)
  have HD := Lib.hid (HD.out.fresh f2)
  have HT := Lib.hid (HT.out.keep f2)
  clear f2 hW2
  generalize w1.heap.size = g6 at *
  have HI2 := Lib.hid (HI.out.keep (HB.out.trans (HD.out.b.mono HB.out.size)))
  have C := stepS W2 HD.out.m ag t ao n cap l HI2.out HC.out (by have := HI.out.1; have := HN.out; omega) (by omega) (by have := HL.out; omega)
  rw [show thV t (.slice ao n cap) = .agg #[.int .i64 t.ti, .int .i64 t.pc, .int .i64 t.rc, .int .i64 t.sq, .int .i64 t.wo, .int .i64 t.lk, .int .i64 t.cu, .int .i64 t.pv, .int .i64 t.nt, .int .i64 t.mx, .int .i64 t.ps, .int .i64 t.rn, .slice ao n cap] from rfl] at C
  have HCC := Lib.hid C
  clear C
  have x := HT.out
  have c0 := x.c0
  have c1 := x.c1
  have c2 := x.c2
  have c3 := x.c3
  have c4 := x.c4
  have c5 := x.c5
  have c6 := x.c6
  have c7 := x.c7
  have c8 := x.c8
  have c9 := x.c9
  have c10 := x.c10
  have c11 := x.c11
  have c12 := x.c12
  clear x
  go_wp2_with fail
  with_reducible refine HCC.out.mono ?_
  clear HCC c0 c1 c2 c3 c4 c5 c6 c7 c8 c9 c10 c11 c12
  rintro e w3 ⟨b', rfl, br, _, d3⟩
  obtain ⟨ao', cap', eb, i3, _, _, _⟩ := br.its
  rw [HI.out.1] at eb i3
  subst eb
  have k3 := d3.kept HD.out.m
  obtain ⟨v3, D3⟩ := HD.out.did d3
  obtain ⟨T, hT⟩ : ∃ T, (swt ag t zs).t = T := ⟨_, rfl⟩
  obtain ⟨zs', hzs⟩ : ∃ y, (swt ag t zs).zs = y := ⟨_, rfl⟩
  obtain ⟨st', hst⟩ : ∃ y, 1 + (len : Int) + (swt ag t zs).c = y := ⟨_, rfl⟩
  rw [hzs, hst] at D3
  rw [hT, show thV T (.slice ao' n cap') = .agg #[.int .i64 T.ti, .int .i64 T.pc, .int .i64 T.rc, .int .i64 T.sq, .int .i64 T.wo, .int .i64 T.lk, .int .i64 T.cu, .int .i64 T.pv, .int .i64 T.nt, .int .i64 T.mx, .int .i64 T.ps, .int .i64 T.rn, .slice ao' n cap'] from rfl]
  have HEQ := Lib.hid (And.intro hT (And.intro hzs hst))
  clear hT hzs hst d3 HI2 br
  have HD1 := HD
  have HD := Lib.hid D3
  have HR := Lib.hid (HR.out.off k3)
  have HT := Lib.hid (HT.out.off k3)
  have HI3 := Lib.hid i3
  clear D3 k3 i3 HD1
  go_upto_region 5 with (fail)
  generalize hW4 : w3.alloc (.cells #[.int .i64 T.ti, .int .i64 T.pc, .int .i64 T.rc, .int .i64 T.sq, .int .i64 T.wo, .int .i64 T.lk, .int .i64 T.cu, .int .i64 T.pv, .int .i64 T.nt, .int .i64 T.mx, .int .i64 T.ps, .int .i64 T.rn, .slice ao' n cap'] 25) = W4
  have f4 : Below w3.heap.size w3 W4 := by subst hW4; exact (Below.refl _ _).alloc (Nat.le_refl _) _
  have HU := Lib.hid (show TX W4 w3.heap.size T (.slice ao' n cap') by subst hW4; exact TX.new w3 T _)
  have HD := Lib.hid (HD.out.fresh f4)
  have HR := Lib.hid (HR.out.keep f4)
  have HT := Lib.hid (HT.out.keep f4)
  have HI3 := Lib.hid (HI3.out.keep f4)
  clear hW4 f4
  generalize w3.heap.size = gu at *
  have C := refStep (st := 1 + (len : Int)) (size := (len : Int)) HD.out.o HD.out.b.size (by have := HL.out; have := HE.out; omega) ao n cap ag (t := t) HCU.out (by omega) (by have := HL.out; omega)
  rw [show thV t (.slice ao n cap) = .agg #[.int .i64 t.ti, .int .i64 t.pc, .int .i64 t.rc, .int .i64 t.sq, .int .i64 t.wo, .int .i64 t.lk, .int .i64 t.cu, .int .i64 t.pv, .int .i64 t.nt, .int .i64 t.mx, .int .i64 t.ps, .int .i64 t.rn, .slice ao n cap] from rfl] at C
  have HCC := Lib.hid C
  clear C
  have x := HT.out
  have c0 := x.c0
  have c1 := x.c1
  have c2 := x.c2
  have c3 := x.c3
  have c4 := x.c4
  have c5 := x.c5
  have c6 := x.c6
  have c7 := x.c7
  have c8 := x.c8
  have c9 := x.c9
  have c10 := x.c10
  have c11 := x.c11
  have c12 := x.c12
  have r0 := HR.out.c0
  have r1 := HR.out.c1
  have r2 := HR.out.c2
  clear x
  go_wp2_with fail
  with_reducible refine HCC.out.mono ?_
  clear HCC r0 r1 r2 c0 c1 c2 c3 c4 c5 c6 c7 c8 c9 c10 c11 c12
  rintro e w5 ⟨u', rfl, l5⟩
  rw [HEQ.out.1, HEQ.out.2.2, show thV T (.slice ao n cap) = .agg #[.int .i64 T.ti, .int .i64 T.pc, .int .i64 T.rc, .int .i64 T.sq, .int .i64 T.wo, .int .i64 T.lk, .int .i64 T.cu, .int .i64 T.pv, .int .i64 T.nt, .int .i64 T.mx, .int .i64 T.ps, .int .i64 T.rn, .slice ao n cap] from rfl]
  rw [HEQ.out.2.1] at l5
  obtain ⟨a5, cu5, e5⟩ := ownShape l5.1
  subst e5
  obtain ⟨len', hlen'⟩ : ∃ n, zs'.length = n := ⟨_, rfl⟩
  rw [hlen'] at l5 ⊢
  have HE' := Lib.hid hlen'
  clear hlen'
  have D5 := HD.out.left l5
  have b5 := l5.2.2
  clear l5
  go_upto_region 6 with (fail)
  generalize hW6 : (w5.alloc (.cells #[.int .i64 (len : Int), .slice a5 len' cu5, .int .i64 st'] 39)).alloc (.cells #[.int .i64 T.ti, .int .i64 T.pc, .int .i64 T.rc, .int .i64 T.sq, .int .i64 T.wo, .int .i64 T.lk, .int .i64 T.cu, .int .i64 T.pv, .int .i64 T.nt, .int .i64 T.mx, .int .i64 T.ps, .int .i64 T.rn, .slice ao n cap] 25) = W6
  have f6 : Below w5.heap.size w5 W6 := by subst hW6; exact ((Below.refl _ _).alloc (Nat.le_refl _) _).alloc (by simp) _
  have HN6 := Lib.hid (show Boxed W6 w5.heap.size (.int .i64 (len : Int)) (.slice a5 len' cu5) (.int .i64 st') by subst hW6; exact (Boxed.new _ _ _ _).alloc _)
  have HV := Lib.hid (show TX W6 (w5.heap.size + 1) T (.slice ao n cap) by
    subst hW6
    have := TX.new (w5.alloc (.cells #[.int .i64 (len : Int), .slice a5 len' cu5, .int .i64 st'] 39)) T (.slice ao n cap)
    simpa using this)
  have f6' := b5.trans (f6.mono b5.size)
  have HSE := Lib.hid (show SE w p w.heap.size gu w5.heap.size (w5.heap.size + 1) v3 t T ao ao' n cap cap' l (len : Int) a5 len' cu5 zs' st' W6 from
    ⟨⟨W, D5.fresh f6⟩, HE'.out, HT.out.keep f6', HU.out.keep f6', HN6.out, HV.out, HI.out.keep (HB.out.trans ((D5.fresh f6).b.mono HB.out.size)), HI3.out.keep f6', HB.out.trans ((D5.fresh f6).b.mono HB.out.size)⟩)
  clear hW6 f6 f6' b5 D5 HR HD HT HI3 HU HN6 HV HI HC HCU HB HEQ HE HE'
  generalize w5.heap.size + 1 = gv at *
  generalize w5.heap.size = gn at *
  generalize w.heap.size = gt at *
  have HC1 := Lib.hid (fun (V : World) (h : SE w p gt gu gn gv v3 t T ao ao' n cap cap' l (len : Int) a5 len' cu5 zs' st' V) => (show Calls Try.prog 30 #[.agg #[.int .i64 T.ti, .int .i64 T.pc, .int .i64 T.rc, .int .i64 T.sq, .int .i64 T.wo, .int .i64 T.lk, .int .i64 T.cu, .int .i64 T.pv, .int .i64 T.nt, .int .i64 T.mx, .int .i64 T.ps, .int .i64 T.rn, .slice ao' n cap'], .agg #[.int .i64 T.ti, .int .i64 T.pc, .int .i64 T.rc, .int .i64 T.sq, .int .i64 T.wo, .int .i64 T.lk, .int .i64 T.cu, .int .i64 T.pv, .int .i64 T.nt, .int .i64 T.mx, .int .i64 T.ps, .int .i64 T.rn, .slice ao n cap]] V fun e w' => e = .returned (.bool true) ∧ SE w p gt gu gn gv v3 t T ao ao' n cap cap' l (len : Int) a5 len' cu5 zs' st' w' from (sameT V T ao' ao n cap' cap l h.i2 h.i1 (by have := HN.out; omega)).mono fun e w' ⟨he, hb⟩ => ⟨he, h.fresh hb⟩))
  have HC2 := Lib.hid (fun (V : World) (h : SE w p gt gu gn gv v3 t T ao ao' n cap cap' l (len : Int) a5 len' cu5 zs' st' V) => h.cellsE)
  have HC3 := Lib.hid (fun (V : World) (g : Option Addr) (h : SE w p gt gu gn gv v3 t T ao ao' n cap cap' l (len : Int) a5 len' cu5 zs' st' V) (r : Reads .i64 V g len' zs') => h.sameE r)
  have HC4 := Lib.hid (fun (V : World) (h : SE w p gt gu gn gv v3 t T ao ao' n cap cap' l (len : Int) a5 len' cu5 zs' st' V) => h.stepsE)
  have HDR := Lib.hid (HSE.out.fresh (Below.refl _ _).drew)
  have i0 := HSE.out.cells
  have i1 := HDR.out.cells
  rcases (show t.pc < 40 ∨ (40 ≤ t.pc ∧ 48 < t.pc) ∨ (40 ≤ t.pc ∧ t.pc ≤ 48) from by omega) with hp | hp | hp
  · have HC5 := Lib.hid (fun (V : World) (h : SE w p gt gu gn gv v3 t T ao ao' n cap cap' l (len : Int) a5 len' cu5 zs' st' V) => (show Calls Try.prog 24 #[.agg #[.int .i64 t.ti, .int .i64 t.pc, .int .i64 t.rc, .int .i64 t.sq, .int .i64 t.wo, .int .i64 t.lk, .int .i64 t.cu, .int .i64 t.pv, .int .i64 t.nt, .int .i64 t.mx, .int .i64 t.ps, .int .i64 t.rn, .slice ao n cap]] V fun e w' => e = .returned (.bool false) ∧ SE w p gt gu gn gv v3 t T ao ao' n cap cap' l (len : Int) a5 len' cu5 zs' st' w' from (sweepsO V t (.slice ao n cap) ⟨ao, n, cap, rfl⟩).mono fun e w' ⟨he, hb⟩ => ⟨by rw [he, show decide (40 ≤ t.pc ∧ t.pc ≤ 48) = false from decide_eq_false (by omega)], h.fresh hb⟩))
    have h1 : decide (40 ≤ t.pc) = false := by simpa using hp
    clear hp
    have C1 := Lib.hid (HC1.out _ HDR.out)
    go_wp2
    refine wp_region_noPanic ?_
    refine wp_region_held_drew (S := fun w' => w'.cell? ⟨gt, 0, none⟩ = some (.int .i64 t.ti) ∧ w'.cell? ⟨gt, 1, none⟩ = some (.int .i64 t.pc) ∧ w'.cell? ⟨gt, 2, none⟩ = some (.int .i64 t.rc) ∧ w'.cell? ⟨gt, 3, none⟩ = some (.int .i64 t.sq) ∧ w'.cell? ⟨gt, 4, none⟩ = some (.int .i64 t.wo) ∧ w'.cell? ⟨gt, 5, none⟩ = some (.int .i64 t.lk) ∧ w'.cell? ⟨gt, 6, none⟩ = some (.int .i64 t.cu) ∧ w'.cell? ⟨gt, 7, none⟩ = some (.int .i64 t.pv) ∧ w'.cell? ⟨gt, 8, none⟩ = some (.int .i64 t.nt) ∧ w'.cell? ⟨gt, 9, none⟩ = some (.int .i64 t.mx) ∧ w'.cell? ⟨gt, 10, none⟩ = some (.int .i64 t.ps) ∧ w'.cell? ⟨gt, 11, none⟩ = some (.int .i64 t.rn) ∧ w'.cell? ⟨gt, 12, none⟩ = some (.slice ao n cap) ∧ w'.cell? ⟨gu, 0, none⟩ = some (.int .i64 T.ti) ∧ w'.cell? ⟨gu, 1, none⟩ = some (.int .i64 T.pc) ∧ w'.cell? ⟨gu, 2, none⟩ = some (.int .i64 T.rc) ∧ w'.cell? ⟨gu, 3, none⟩ = some (.int .i64 T.sq) ∧ w'.cell? ⟨gu, 4, none⟩ = some (.int .i64 T.wo) ∧ w'.cell? ⟨gu, 5, none⟩ = some (.int .i64 T.lk) ∧ w'.cell? ⟨gu, 6, none⟩ = some (.int .i64 T.cu) ∧ w'.cell? ⟨gu, 7, none⟩ = some (.int .i64 T.pv) ∧ w'.cell? ⟨gu, 8, none⟩ = some (.int .i64 T.nt) ∧ w'.cell? ⟨gu, 9, none⟩ = some (.int .i64 T.mx) ∧ w'.cell? ⟨gu, 10, none⟩ = some (.int .i64 T.ps) ∧ w'.cell? ⟨gu, 11, none⟩ = some (.int .i64 T.rn) ∧ w'.cell? ⟨gu, 12, none⟩ = some (.slice ao' n cap') ∧ w'.cell? ⟨gv, 0, none⟩ = some (.int .i64 T.ti) ∧ w'.cell? ⟨gv, 1, none⟩ = some (.int .i64 T.pc) ∧ w'.cell? ⟨gv, 2, none⟩ = some (.int .i64 T.rc) ∧ w'.cell? ⟨gv, 3, none⟩ = some (.int .i64 T.sq) ∧ w'.cell? ⟨gv, 4, none⟩ = some (.int .i64 T.wo) ∧ w'.cell? ⟨gv, 5, none⟩ = some (.int .i64 T.lk) ∧ w'.cell? ⟨gv, 6, none⟩ = some (.int .i64 T.cu) ∧ w'.cell? ⟨gv, 7, none⟩ = some (.int .i64 T.pv) ∧ w'.cell? ⟨gv, 8, none⟩ = some (.int .i64 T.nt) ∧ w'.cell? ⟨gv, 9, none⟩ = some (.int .i64 T.mx) ∧ w'.cell? ⟨gv, 10, none⟩ = some (.int .i64 T.ps) ∧ w'.cell? ⟨gv, 11, none⟩ = some (.int .i64 T.rn) ∧ w'.cell? ⟨gv, 12, none⟩ = some (.slice ao n cap) ∧ w'.cell? ⟨gn, 1, none⟩ = some (.slice a5 len' cu5) ∧ w'.cell? ⟨gn, 2, none⟩ = some (.int .i64 st')) (by kernel_rfl) i1 (fun hHeld => ?_)
    refine wpAnyH_take (i := 0) (v := ?_) rfl (by kernel_rfl) (by kernel_rfl) (by kernel_rfl) (fun _ _ _ h => h) (Or.inl ⟨by rfl, ?_⟩) (by assumption) ?_
    rotate_left
    · intro w hSw
      (try dsimp only at hSw)
      go_simp
      try with_reducible rfl
    try simp only [List.getElem_toArray, List.getElem_cons_zero, Act.put, List.setIfInBounds_toArray, List.set_cons_zero, List.set_cons_succ]
    refine wpAnyH_take (i := 1) (v := ?_) rfl (by kernel_rfl) (by kernel_rfl) (by kernel_rfl) (fun _ _ _ h => h) (Or.inl ⟨by rfl, ?_⟩) (by assumption) ?_
    rotate_left
    · intro w hSw
      (try dsimp only at hSw)
      go_simp
      try with_reducible rfl
    try simp only [List.getElem_toArray, List.getElem_cons_succ, List.getElem_cons_zero, Act.put, List.setIfInBounds_toArray, List.set_cons_zero, List.set_cons_succ]
    refine wpAnyH_ready (rs := [2]) (by kernel_rfl) (by simp) ?_
    refine AllReadyH.cons rfl (fun K hK => ?_) AllReadyH.nil
    go_simp
    with_reducible refine C1.out.mono ?_
    rintro e V1 ⟨rfl, s1⟩
    have i2 := s1.cells
    have C2 := Lib.hid (HC2.out _ s1)
    clear s1 hHeld
    try go_wp2_with fail
    refine hK.out _ _ i2 (fun hHeld => ?_)
    clear hK K
    try simp only [List.getElem_toArray, List.getElem_cons_succ, List.getElem_cons_zero, Act.put, List.setIfInBounds_toArray, List.set_cons_zero, List.set_cons_succ]
    refine wpAnyH_take (i := 3) (v := ?_) rfl (by kernel_rfl) (by kernel_rfl) (by kernel_rfl) (fun _ _ _ h => h) (Or.inl ⟨by rfl, ?_⟩) (by assumption) ?_
    rotate_left
    · intro w hSw
      (try dsimp only at hSw)
      go_simp
      try with_reducible rfl
    try simp only [List.getElem_toArray, List.getElem_cons_succ, List.getElem_cons_zero, Act.put, List.setIfInBounds_toArray, List.set_cons_zero, List.set_cons_succ]
    refine wpAnyH_take (i := 4) (v := ?_) rfl (by kernel_rfl) (by kernel_rfl) (by kernel_rfl) (fun _ _ _ h => h) (Or.inl ⟨by rfl, ?_⟩) (by assumption) ?_
    rotate_left
    · intro w hSw
      (try dsimp only at hSw)
      go_simp
      try with_reducible rfl
    try simp only [List.getElem_toArray, List.getElem_cons_succ, List.getElem_cons_zero, Act.put, List.setIfInBounds_toArray, List.set_cons_zero, List.set_cons_succ]
    refine wpAnyH_take (i := 6) (v := ?_) rfl (by kernel_rfl) (by kernel_rfl) (by kernel_rfl) (fun _ _ _ h => h) (Or.inl ⟨by rfl, ?_⟩) (by assumption) ?_
    rotate_left
    · intro w hSw
      (try dsimp only at hSw)
      go_simp
      try with_reducible rfl
    try simp only [List.getElem_toArray, List.getElem_cons_succ, List.getElem_cons_zero, Act.put, List.setIfInBounds_toArray, List.set_cons_zero, List.set_cons_succ]
    refine wpAnyH_take (i := 7) (v := ?_) rfl (by kernel_rfl) (by kernel_rfl) (by kernel_rfl) (fun _ _ _ h => h) (Or.inl ⟨by rfl, ?_⟩) (by assumption) ?_
    rotate_left
    · intro w hSw
      (try dsimp only at hSw)
      go_simp
      try with_reducible rfl
    try simp only [List.getElem_toArray, List.getElem_cons_succ, List.getElem_cons_zero, Act.put, List.setIfInBounds_toArray, List.set_cons_zero, List.set_cons_succ]
    refine wpAnyH_ready (rs := [5]) (by kernel_rfl) (by simp) ?_
    refine AllReadyH.cons rfl (fun K hK => ?_) AllReadyH.nil
    go_simp
    with_reducible refine C2.out.mono ?_
    rintro e V2 ⟨rfl, r2, s2⟩
    have i3 := s2.cells
    have C3 := Lib.hid (HC3.out _ _ s2 r2)
    clear s2 r2 hHeld
    try go_wp2_with fail
    refine hK.out _ _ i3 (fun hHeld => ?_)
    clear hK K
    try simp only [List.getElem_toArray, List.getElem_cons_succ, List.getElem_cons_zero, Act.put, List.setIfInBounds_toArray, List.set_cons_zero, List.set_cons_succ]
    refine wpAnyH_ready (rs := [8]) (by kernel_rfl) (by simp) ?_
    refine AllReadyH.cons rfl (fun K hK => ?_) AllReadyH.nil
    go_simp
    with_reducible refine C3.out.mono ?_
    rintro e V3 ⟨rfl, s3⟩
    have i4 := s3.cells
    have C4 := Lib.hid (HC4.out _ s3)
    have C5 := Lib.hid (HC5.out _ s3)
    clear s3 hHeld
    try go_wp2_with fail
    refine hK.out _ _ i4 (fun hHeld => ?_)
    clear hK K
    try simp only [List.getElem_toArray, List.getElem_cons_succ, List.getElem_cons_zero, Act.put, List.setIfInBounds_toArray, List.set_cons_zero, List.set_cons_succ]
    refine wpAnyH_take (i := 9) (v := ?_) rfl (by kernel_rfl) (by kernel_rfl) (by kernel_rfl) (fun _ _ _ h => h) (Or.inl ⟨by rfl, ?_⟩) (by assumption) ?_
    rotate_left
    · intro w hSw
      (try dsimp only at hSw)
      go_simp
      try with_reducible rfl
    try simp only [List.getElem_toArray, List.getElem_cons_succ, List.getElem_cons_zero, Act.put, List.setIfInBounds_toArray, List.set_cons_zero, List.set_cons_succ]
    refine wpAnyH_take (i := 10) (v := ?_) rfl (by kernel_rfl) (by kernel_rfl) (by kernel_rfl) (fun _ _ _ h => h) (Or.inl ⟨by rfl, ?_⟩) (by assumption) ?_
    rotate_left
    · intro w hSw
      (try dsimp only at hSw)
      go_simp
      try with_reducible rfl
    try simp only [List.getElem_toArray, List.getElem_cons_succ, List.getElem_cons_zero, Act.put, List.setIfInBounds_toArray, List.set_cons_zero, List.set_cons_succ]
    refine wpAnyH_take (i := 11) (v := ?_) rfl (by kernel_rfl) (by kernel_rfl) (by kernel_rfl) (fun _ _ _ h => h) (Or.inl ⟨by rfl, ?_⟩) (by assumption) ?_
    rotate_left
    · intro w hSw
      (try dsimp only at hSw)
      go_simp
      try with_reducible rfl
    try simp only [List.getElem_toArray, List.getElem_cons_succ, List.getElem_cons_zero, Act.put, List.setIfInBounds_toArray, List.set_cons_zero, List.set_cons_succ]
    refine wpAnyH_take (i := 13) (v := ?_) rfl (by kernel_rfl) (by kernel_rfl) (by kernel_rfl) (fun _ _ _ h => h) (Or.inl ⟨by rfl, ?_⟩) (by assumption) ?_
    rotate_left
    · intro w hSw
      (try dsimp only at hSw)
      go_simp
      try with_reducible rfl
    try simp only [List.getElem_toArray, List.getElem_cons_succ, List.getElem_cons_zero, Act.put, List.setIfInBounds_toArray, List.set_cons_zero, List.set_cons_succ]
    refine wpAnyH_take (i := 14) (v := ?_) rfl (by kernel_rfl) (by kernel_rfl) (by kernel_rfl) (fun _ _ _ h => h) (Or.inl ⟨by rfl, ?_⟩) (by assumption) ?_
    rotate_left
    · intro w hSw
      (try dsimp only at hSw)
      go_simp
      try with_reducible rfl
    try simp only [List.getElem_toArray, List.getElem_cons_succ, List.getElem_cons_zero, Act.put, List.setIfInBounds_toArray, List.set_cons_zero, List.set_cons_succ]
    refine wpAnyH_ready (rs := [12]) (by kernel_rfl) (by simp) ?_
    refine AllReadyH.cons rfl (fun K hK => ?_) AllReadyH.nil
    go_simp
    with_reducible refine C4.out.mono ?_
    rintro e w' ⟨rfl, rfl⟩
    clear hHeld
    try go_wp2_with fail
    refine hK.out _ _ i4 (fun hHeld => ?_)
    clear hK K
    try simp only [List.getElem_toArray, List.getElem_cons_succ, List.getElem_cons_zero, Act.put, List.setIfInBounds_toArray, List.set_cons_zero, List.set_cons_succ]
    refine wpAnyH_take (i := 15) (v := ?_) rfl (by kernel_rfl) (by kernel_rfl) (by kernel_rfl) (fun _ _ _ h => h) (Or.inl ⟨by rfl, ?_⟩) (by assumption) ?_
    rotate_left
    · intro w hSw
      (try dsimp only at hSw)
      go_simp
      try with_reducible rfl
    try simp only [List.getElem_toArray, List.getElem_cons_succ, List.getElem_cons_zero, Act.put, List.setIfInBounds_toArray, List.set_cons_zero, List.set_cons_succ]
    refine wpAnyH_take (i := 16) (v := ?_) rfl (by kernel_rfl) (by kernel_rfl) (by kernel_rfl) (fun _ _ _ h => h) (Or.inl ⟨by rfl, ?_⟩) (by assumption) ?_
    rotate_left
    · intro w hSw
      (try dsimp only at hSw)
      go_simp
      try with_reducible rfl
    try simp only [List.getElem_toArray, List.getElem_cons_succ, List.getElem_cons_zero, Act.put, List.setIfInBounds_toArray, List.set_cons_zero, List.set_cons_succ]
    refine wpAnyH_take (i := 17) (v := ?_) rfl (by kernel_rfl) (by kernel_rfl) (by kernel_rfl) (fun _ _ _ h => h) (Or.inl ⟨by rfl, ?_⟩) (by assumption) ?_
    rotate_left
    · intro w hSw
      (try dsimp only at hSw)
      go_simp
      try with_reducible rfl
    try simp only [List.getElem_toArray, List.getElem_cons_succ, List.getElem_cons_zero, Act.put, List.setIfInBounds_toArray, List.set_cons_zero, List.set_cons_succ]
    refine wpAnyH_take (i := 18) (v := ?_) rfl (by kernel_rfl) (by kernel_rfl) (by kernel_rfl) (fun _ _ _ h => h) (Or.inl ⟨by rfl, ?_⟩) (by assumption) ?_
    rotate_left
    · intro w hSw
      (try dsimp only at hSw)
      go_simp
      try with_reducible rfl
    try simp only [List.getElem_toArray, List.getElem_cons_succ, List.getElem_cons_zero, Act.put, List.setIfInBounds_toArray, List.set_cons_zero, List.set_cons_succ]
    refine wpAnyH_take (i := 20) (v := ?_) rfl (by kernel_rfl) (by kernel_rfl) (by kernel_rfl) (fun _ _ _ h => h) (Or.inl ⟨by rfl, ?_⟩) (by assumption) ?_
    rotate_left
    · intro w hSw
      (try dsimp only at hSw)
      go_simp
      try with_reducible rfl
    try simp only [List.getElem_toArray, List.getElem_cons_succ, List.getElem_cons_zero, Act.put, List.setIfInBounds_toArray, List.set_cons_zero, List.set_cons_succ]
    refine wpAnyH_take (i := 21) (v := ?_) rfl (by kernel_rfl) (by kernel_rfl) (by kernel_rfl) (fun _ _ _ h => h) (Or.inl ⟨by rfl, ?_⟩) (by assumption) ?_
    rotate_left
    · intro w hSw
      (try dsimp only at hSw)
      go_simp
      try with_reducible rfl
    try simp only [List.getElem_toArray, List.getElem_cons_succ, List.getElem_cons_zero, Act.put, List.setIfInBounds_toArray, List.set_cons_zero, List.set_cons_succ]
    refine wpAnyH_take (i := 22) (v := ?_) rfl (by kernel_rfl) (by kernel_rfl) (by kernel_rfl) (fun _ _ _ h => h) (Or.inl ⟨by rfl, ?_⟩) (by assumption) ?_
    rotate_left
    · intro w hSw
      (try dsimp only at hSw)
      go_simp
      try with_reducible rfl
    try simp only [List.getElem_toArray, List.getElem_cons_succ, List.getElem_cons_zero, Act.put, List.setIfInBounds_toArray, List.set_cons_zero, List.set_cons_succ]
    refine wpAnyH_ready (rs := [19]) (by kernel_rfl) (by simp) ?_
    refine AllReadyH.cons rfl (fun K hK => ?_) AllReadyH.nil
    go_simp
    with_reducible refine C5.out.mono ?_
    rintro e V5 ⟨rfl, s5⟩
    have HF := Lib.hid s5
    have i5 := HF.out.cells
    clear s5 hHeld
    try go_wp2_with fail
    refine hK.out _ _ i5 (fun hHeld => ?_)
    clear hK K
    try simp only [List.getElem_toArray, List.getElem_cons_succ, List.getElem_cons_zero, Act.put, List.setIfInBounds_toArray, List.set_cons_zero, List.set_cons_succ]
    refine wpAnyH_take (i := 23) (v := ?_) rfl (by kernel_rfl) (by kernel_rfl) (by kernel_rfl) (fun _ _ _ h => h) (Or.inl ⟨by rfl, ?_⟩) (by assumption) ?_
    rotate_left
    · intro w hSw
      (try dsimp only at hSw)
      go_simp
      try with_reducible rfl
    try simp only [List.getElem_toArray, List.getElem_cons_succ, List.getElem_cons_zero, Act.put, List.setIfInBounds_toArray, List.set_cons_zero, List.set_cons_succ]
    refine wpAnyH_take (i := 24) (v := undef) rfl (by kernel_rfl) (by kernel_rfl) (by kernel_rfl) (fun _ _ _ h => h) (Or.inr ⟨by rfl, rfl⟩) (by assumption) ?_
    try simp only [List.getElem_toArray, List.getElem_cons_succ, List.getElem_cons_zero, Act.put, List.setIfInBounds_toArray, List.set_cons_zero, List.set_cons_succ]
    refine wpAnyH_take (i := 25) (v := undef) rfl (by kernel_rfl) (by kernel_rfl) (by kernel_rfl) (fun _ _ _ h => h) (Or.inr ⟨by rfl, rfl⟩) (by assumption) ?_
    try simp only [List.getElem_toArray, List.getElem_cons_succ, List.getElem_cons_zero, Act.put, List.setIfInBounds_toArray, List.set_cons_zero, List.set_cons_succ]
    refine wpAnyH_take (i := 26) (v := undef) rfl (by kernel_rfl) (by kernel_rfl) (by kernel_rfl) (fun _ _ _ h => h) (Or.inr ⟨by rfl, rfl⟩) (by assumption) ?_
    try simp only [List.getElem_toArray, List.getElem_cons_succ, List.getElem_cons_zero, Act.put, List.setIfInBounds_toArray, List.set_cons_zero, List.set_cons_succ]
    refine wpAnyH_take (i := 27) (v := ?_) rfl (by kernel_rfl) (by kernel_rfl) (by kernel_rfl) (fun _ _ _ h => h) (Or.inl ⟨by rfl, ?_⟩) (by assumption) ?_
    rotate_left
    · intro w hSw
      (try dsimp only at hSw)
      go_simp
      try with_reducible rfl
    try simp only [List.getElem_toArray, List.getElem_cons_succ, List.getElem_cons_zero, Act.put, List.setIfInBounds_toArray, List.set_cons_zero, List.set_cons_succ]
    refine wpAnyH_take (i := 28) (v := ?_) rfl (by kernel_rfl) (by kernel_rfl) (by kernel_rfl) (fun _ _ _ h => h) (Or.inl ⟨by rfl, ?_⟩) (by assumption) ?_
    rotate_left
    · intro w hSw
      (try dsimp only at hSw)
      go_simp
      try with_reducible rfl
    try simp only [List.getElem_toArray, List.getElem_cons_succ, List.getElem_cons_zero, Act.put, List.setIfInBounds_toArray, List.set_cons_zero, List.set_cons_succ]
    refine wpAnyH_take (i := 29) (v := ?_) rfl (by kernel_rfl) (by kernel_rfl) (by kernel_rfl) (fun _ _ _ h => h) (Or.inl ⟨by rfl, ?_⟩) (by assumption) ?_
    rotate_left
    · intro w hSw
      (try dsimp only at hSw)
      go_simp
      try with_reducible rfl
    try simp only [List.getElem_toArray, List.getElem_cons_succ, List.getElem_cons_zero, Act.put, List.setIfInBounds_toArray, List.set_cons_zero, List.set_cons_succ]
    refine wpAnyH_take (i := 30) (v := ?_) rfl (by kernel_rfl) (by kernel_rfl) (by kernel_rfl) (fun _ _ _ h => h) (Or.inl ⟨by rfl, ?_⟩) (by assumption) ?_
    rotate_left
    · intro w hSw
      (try dsimp only at hSw)
      go_simp
      try with_reducible rfl
    try simp only [List.getElem_toArray, List.getElem_cons_succ, List.getElem_cons_zero, Act.put, List.setIfInBounds_toArray, List.set_cons_zero, List.set_cons_succ]
    refine wpAnyH_done (by kernel_rfl) ?_ _
    refine NoPanic.normal ?_
    go_wp2
    go_ret
    exact ⟨by simp, HF.out.lo⟩
  · have HC5 := Lib.hid (fun (V : World) (h : SE w p gt gu gn gv v3 t T ao ao' n cap cap' l (len : Int) a5 len' cu5 zs' st' V) => (show Calls Try.prog 24 #[.agg #[.int .i64 t.ti, .int .i64 t.pc, .int .i64 t.rc, .int .i64 t.sq, .int .i64 t.wo, .int .i64 t.lk, .int .i64 t.cu, .int .i64 t.pv, .int .i64 t.nt, .int .i64 t.mx, .int .i64 t.ps, .int .i64 t.rn, .slice ao n cap]] V fun e w' => e = .returned (.bool false) ∧ SE w p gt gu gn gv v3 t T ao ao' n cap cap' l (len : Int) a5 len' cu5 zs' st' w' from (sweepsO V t (.slice ao n cap) ⟨ao, n, cap, rfl⟩).mono fun e w' ⟨he, hb⟩ => ⟨by rw [he, show decide (40 ≤ t.pc ∧ t.pc ≤ 48) = false from decide_eq_false (by omega)], h.fresh hb⟩))
    have h1 : decide (40 ≤ t.pc) = true := by simpa using hp.1
    have h2 : decide (t.pc ≤ 48) = false := by simpa using hp.2
    clear hp
    have C1 := Lib.hid (HC1.out _ HDR.out)
    go_wp2
    go_region_held3 (fun w' => w'.cell? ⟨gt, 0, none⟩ = some (.int .i64 t.ti) ∧ w'.cell? ⟨gt, 1, none⟩ = some (.int .i64 t.pc) ∧ w'.cell? ⟨gt, 2, none⟩ = some (.int .i64 t.rc) ∧ w'.cell? ⟨gt, 3, none⟩ = some (.int .i64 t.sq) ∧ w'.cell? ⟨gt, 4, none⟩ = some (.int .i64 t.wo) ∧ w'.cell? ⟨gt, 5, none⟩ = some (.int .i64 t.lk) ∧ w'.cell? ⟨gt, 6, none⟩ = some (.int .i64 t.cu) ∧ w'.cell? ⟨gt, 7, none⟩ = some (.int .i64 t.pv) ∧ w'.cell? ⟨gt, 8, none⟩ = some (.int .i64 t.nt) ∧ w'.cell? ⟨gt, 9, none⟩ = some (.int .i64 t.mx) ∧ w'.cell? ⟨gt, 10, none⟩ = some (.int .i64 t.ps) ∧ w'.cell? ⟨gt, 11, none⟩ = some (.int .i64 t.rn) ∧ w'.cell? ⟨gt, 12, none⟩ = some (.slice ao n cap) ∧ w'.cell? ⟨gu, 0, none⟩ = some (.int .i64 T.ti) ∧ w'.cell? ⟨gu, 1, none⟩ = some (.int .i64 T.pc) ∧ w'.cell? ⟨gu, 2, none⟩ = some (.int .i64 T.rc) ∧ w'.cell? ⟨gu, 3, none⟩ = some (.int .i64 T.sq) ∧ w'.cell? ⟨gu, 4, none⟩ = some (.int .i64 T.wo) ∧ w'.cell? ⟨gu, 5, none⟩ = some (.int .i64 T.lk) ∧ w'.cell? ⟨gu, 6, none⟩ = some (.int .i64 T.cu) ∧ w'.cell? ⟨gu, 7, none⟩ = some (.int .i64 T.pv) ∧ w'.cell? ⟨gu, 8, none⟩ = some (.int .i64 T.nt) ∧ w'.cell? ⟨gu, 9, none⟩ = some (.int .i64 T.mx) ∧ w'.cell? ⟨gu, 10, none⟩ = some (.int .i64 T.ps) ∧ w'.cell? ⟨gu, 11, none⟩ = some (.int .i64 T.rn) ∧ w'.cell? ⟨gu, 12, none⟩ = some (.slice ao' n cap') ∧ w'.cell? ⟨gv, 0, none⟩ = some (.int .i64 T.ti) ∧ w'.cell? ⟨gv, 1, none⟩ = some (.int .i64 T.pc) ∧ w'.cell? ⟨gv, 2, none⟩ = some (.int .i64 T.rc) ∧ w'.cell? ⟨gv, 3, none⟩ = some (.int .i64 T.sq) ∧ w'.cell? ⟨gv, 4, none⟩ = some (.int .i64 T.wo) ∧ w'.cell? ⟨gv, 5, none⟩ = some (.int .i64 T.lk) ∧ w'.cell? ⟨gv, 6, none⟩ = some (.int .i64 T.cu) ∧ w'.cell? ⟨gv, 7, none⟩ = some (.int .i64 T.pv) ∧ w'.cell? ⟨gv, 8, none⟩ = some (.int .i64 T.nt) ∧ w'.cell? ⟨gv, 9, none⟩ = some (.int .i64 T.mx) ∧ w'.cell? ⟨gv, 10, none⟩ = some (.int .i64 T.ps) ∧ w'.cell? ⟨gv, 11, none⟩ = some (.int .i64 T.rn) ∧ w'.cell? ⟨gv, 12, none⟩ = some (.slice ao n cap) ∧ w'.cell? ⟨gn, 1, none⟩ = some (.slice a5 len' cu5) ∧ w'.cell? ⟨gn, 2, none⟩ = some (.int .i64 st')) (first | with_reducible exact i0 | with_reducible exact i1 | with_reducible exact i2 | with_reducible exact i3 | with_reducible exact i4 | with_reducible exact i5) (first
      | ((with_reducible refine C5.out.mono ?_); rintro e V5 ⟨rfl, s5⟩; have HF := Lib.hid s5; have i5 := HF.out.cells; clear s5)
      | ((with_reducible refine C4.out.mono ?_); rintro e w' ⟨rfl, rfl⟩)
      | ((with_reducible refine C3.out.mono ?_); rintro e V3 ⟨rfl, s3⟩; have i4 := s3.cells; have C4 := Lib.hid (HC4.out _ s3); have C5 := Lib.hid (HC5.out _ s3); clear s3)
      | ((with_reducible refine C2.out.mono ?_); rintro e V2 ⟨rfl, r2, s2⟩; have i3 := s2.cells; have C3 := Lib.hid (HC3.out _ _ s2 r2); clear s2 r2)
      | ((with_reducible refine C1.out.mono ?_); rintro e V1 ⟨rfl, s1⟩; have i2 := s1.cells; have C2 := Lib.hid (HC2.out _ s1); clear s1))
    all_goals
      go_wp2
      go_ret
      exact ⟨by simp, HF.out.lo⟩
  · have HC5 := Lib.hid (fun (V : World) (h : SE w p gt gu gn gv v3 t T ao ao' n cap cap' l (len : Int) a5 len' cu5 zs' st' V) => (show Calls Try.prog 24 #[.agg #[.int .i64 t.ti, .int .i64 t.pc, .int .i64 t.rc, .int .i64 t.sq, .int .i64 t.wo, .int .i64 t.lk, .int .i64 t.cu, .int .i64 t.pv, .int .i64 t.nt, .int .i64 t.mx, .int .i64 t.ps, .int .i64 t.rn, .slice ao n cap]] V fun e w' => e = .returned (.bool true) ∧ SE w p gt gu gn gv v3 t T ao ao' n cap cap' l (len : Int) a5 len' cu5 zs' st' w' from (sweepsO V t (.slice ao n cap) ⟨ao, n, cap, rfl⟩).mono fun e w' ⟨he, hb⟩ => ⟨by rw [he, show decide (40 ≤ t.pc ∧ t.pc ≤ 48) = true from decide_eq_true hp], h.fresh hb⟩))
    have h1 : decide (40 ≤ t.pc) = true := by simpa using hp.1
    have h2 : decide (t.pc ≤ 48) = true := by simpa using hp.2
    clear hp
    have C1 := Lib.hid (HC1.out _ HDR.out)
    go_wp2
    go_region_held3 (fun w' => w'.cell? ⟨gt, 0, none⟩ = some (.int .i64 t.ti) ∧ w'.cell? ⟨gt, 1, none⟩ = some (.int .i64 t.pc) ∧ w'.cell? ⟨gt, 2, none⟩ = some (.int .i64 t.rc) ∧ w'.cell? ⟨gt, 3, none⟩ = some (.int .i64 t.sq) ∧ w'.cell? ⟨gt, 4, none⟩ = some (.int .i64 t.wo) ∧ w'.cell? ⟨gt, 5, none⟩ = some (.int .i64 t.lk) ∧ w'.cell? ⟨gt, 6, none⟩ = some (.int .i64 t.cu) ∧ w'.cell? ⟨gt, 7, none⟩ = some (.int .i64 t.pv) ∧ w'.cell? ⟨gt, 8, none⟩ = some (.int .i64 t.nt) ∧ w'.cell? ⟨gt, 9, none⟩ = some (.int .i64 t.mx) ∧ w'.cell? ⟨gt, 10, none⟩ = some (.int .i64 t.ps) ∧ w'.cell? ⟨gt, 11, none⟩ = some (.int .i64 t.rn) ∧ w'.cell? ⟨gt, 12, none⟩ = some (.slice ao n cap) ∧ w'.cell? ⟨gu, 0, none⟩ = some (.int .i64 T.ti) ∧ w'.cell? ⟨gu, 1, none⟩ = some (.int .i64 T.pc) ∧ w'.cell? ⟨gu, 2, none⟩ = some (.int .i64 T.rc) ∧ w'.cell? ⟨gu, 3, none⟩ = some (.int .i64 T.sq) ∧ w'.cell? ⟨gu, 4, none⟩ = some (.int .i64 T.wo) ∧ w'.cell? ⟨gu, 5, none⟩ = some (.int .i64 T.lk) ∧ w'.cell? ⟨gu, 6, none⟩ = some (.int .i64 T.cu) ∧ w'.cell? ⟨gu, 7, none⟩ = some (.int .i64 T.pv) ∧ w'.cell? ⟨gu, 8, none⟩ = some (.int .i64 T.nt) ∧ w'.cell? ⟨gu, 9, none⟩ = some (.int .i64 T.mx) ∧ w'.cell? ⟨gu, 10, none⟩ = some (.int .i64 T.ps) ∧ w'.cell? ⟨gu, 11, none⟩ = some (.int .i64 T.rn) ∧ w'.cell? ⟨gu, 12, none⟩ = some (.slice ao' n cap') ∧ w'.cell? ⟨gv, 0, none⟩ = some (.int .i64 T.ti) ∧ w'.cell? ⟨gv, 1, none⟩ = some (.int .i64 T.pc) ∧ w'.cell? ⟨gv, 2, none⟩ = some (.int .i64 T.rc) ∧ w'.cell? ⟨gv, 3, none⟩ = some (.int .i64 T.sq) ∧ w'.cell? ⟨gv, 4, none⟩ = some (.int .i64 T.wo) ∧ w'.cell? ⟨gv, 5, none⟩ = some (.int .i64 T.lk) ∧ w'.cell? ⟨gv, 6, none⟩ = some (.int .i64 T.cu) ∧ w'.cell? ⟨gv, 7, none⟩ = some (.int .i64 T.pv) ∧ w'.cell? ⟨gv, 8, none⟩ = some (.int .i64 T.nt) ∧ w'.cell? ⟨gv, 9, none⟩ = some (.int .i64 T.mx) ∧ w'.cell? ⟨gv, 10, none⟩ = some (.int .i64 T.ps) ∧ w'.cell? ⟨gv, 11, none⟩ = some (.int .i64 T.rn) ∧ w'.cell? ⟨gv, 12, none⟩ = some (.slice ao n cap) ∧ w'.cell? ⟨gn, 1, none⟩ = some (.slice a5 len' cu5) ∧ w'.cell? ⟨gn, 2, none⟩ = some (.int .i64 st')) (first | with_reducible exact i0 | with_reducible exact i1 | with_reducible exact i2 | with_reducible exact i3 | with_reducible exact i4 | with_reducible exact i5) (first
      | ((with_reducible refine C5.out.mono ?_); rintro e V5 ⟨rfl, s5⟩; have HF := Lib.hid s5; have i5 := HF.out.cells; clear s5)
      | ((with_reducible refine C4.out.mono ?_); rintro e w' ⟨rfl, rfl⟩)
      | ((with_reducible refine C3.out.mono ?_); rintro e V3 ⟨rfl, s3⟩; have i4 := s3.cells; have C4 := Lib.hid (HC4.out _ s3); have C5 := Lib.hid (HC5.out _ s3); clear s3)
      | ((with_reducible refine C2.out.mono ?_); rintro e V2 ⟨rfl, r2, s2⟩; have i3 := s2.cells; have C3 := Lib.hid (HC3.out _ _ s2 r2); clear s2 r2)
      | ((with_reducible refine C1.out.mono ?_); rintro e V1 ⟨rfl, s1⟩; have i2 := s1.cells; have C2 := Lib.hid (HC2.out _ s1); clear s1))
    all_goals
      go_wp2
      go_ret
      exact ⟨by simp, HF.out.lo⟩

end Go.Proofs.Ytfnjbbokbdddpaa.M2
namespace Go.Proofs.Ytfnjbbokbdddpaa.M2
open Go.RowKit

def TamePost (w : World) (q : Int) (b : Value) (e : Ending) (w' : World) : Prop := ∃ t', e = .returned (thV t' b) ∧ t'.rc = 3 + 5 * (q % 7) ∧ ad t'.cu 0 = t'.cu ∧ Below w.heap.size w w'

theorem adw (x : Int) : ad (wrap64 x) 0 = wrap64 x := by
  unfold ad wrap64
  omega

set_option maxRecDepth 100000 in
set_option maxHeartbeats 16000000 in
theorem tameAny (w : World) (t : Th) (ao : Option Addr) (n cap : Nat) (q : Int) (h0 : 0 ≤ q) (h1 : q ≤ 255) :
    Calls Try.prog 11 #[thV t (.slice ao n cap), .int .u8 q] w (TamePost w q (.slice ao n cap)) := by
  rw [show thV t (.slice ao n cap) = .agg #[.int .i64 t.ti, .int .i64 t.pc, .int .i64 t.rc, .int .i64 t.sq, .int .i64 t.wo, .int .i64 t.lk, .int .i64 t.cu, .int .i64 t.pv, .int .i64 t.nt, .int .i64 t.mx, .int .i64 t.ps, .int .i64 t.rn, .slice ao n cap] from rfl]
  go_enter Try.func11, Try.ntmps11
  go_upto_region 1 with (fail)
  generalize hW : (w.alloc (.cells #[.int .i64 t.ti, .int .i64 t.pc, .int .i64 t.rc, .int .i64 t.sq, .int .i64 t.wo, .int .i64 t.lk, .int .i64 t.cu, .int .i64 t.pv, .int .i64 t.nt, .int .i64 t.mx, .int .i64 t.ps, .int .i64 t.rn, .slice ao n cap] 25)).alloc (.cells #[.int .i64 0, .int .i64 0, .int .i64 0, .int .i64 0, .int .i64 0, .int .i64 0, .int .i64 0, .int .i64 0, .int .i64 0, .int .i64 0, .int .i64 0, .int .i64 0, .slice none 0 0] 25) = W0
  have HB := Lib.hid (show Below w.heap.size w W0 by subst hW; exact ((Below.refl _ _).alloc (Nat.le_refl _) _).alloc (by simp) _)
  have HY := Lib.hid (show TX W0 (w.heap.size + 1) t0 (.slice none 0 0) by
    subst hW
    have := TX.new (w.alloc (.cells #[.int .i64 t.ti, .int .i64 t.pc, .int .i64 t.rc, .int .i64 t.sq, .int .i64 t.wo, .int .i64 t.lk, .int .i64 t.cu, .int .i64 t.pv, .int .i64 t.nt, .int .i64 t.mx, .int .i64 t.ps, .int .i64 t.rn, .slice ao n cap] 25)) t0 (.slice none 0 0)
    simpa [t0] using this)
  have HX0 := Lib.hid (show TX W0 w.heap.size t (.slice ao n cap) by subst hW; exact (TX.new w t _).alloc _)
  clear hW
  obtain ⟨g, hg⟩ : ∃ g, w.heap.size = g := ⟨_, rfl⟩
  have HG := Lib.hid hg
  rw [hg] at HX0 HY
  rw [hg]
  clear hg
  have x := HX0.out
  have x1 := x.c1
  have xf := x.f
  clear x
  go_upto_region 2 with (fail)
  generalize hV : World.setCell W0 ⟨g, 1, none⟩ (.int .i64 _) = W1
  obtain ⟨T1, hx, hr⟩ : ∃ T', TX W1 g T' (.slice ao n cap) ∧ T'.rc = t.rc := by subst hV; exact ⟨_, HX0.out.s1 _, rfl⟩
  have HX1 := Lib.hid hx
  have HRC1 := Lib.hid hr
  have HY := Lib.hid (show TX W1 (g + 1) t0 (.slice none 0 0) by subst hV; exact HY.out.other (by simp) _)
  have HB := Lib.hid (show Below w.heap.size w W1 by subst hV; exact HB.out.setCell (by simp [HG.out]) _)
  clear hV hx hr x1 xf
  have x := HX1.out
  have x2 := x.c2
  have xf := x.f
  clear x
  go_upto_region 3 with (fail)
  generalize hV : World.setCell W1 ⟨g, 2, none⟩ (.int .i64 _) = W2
  obtain ⟨T2, hx, hr⟩ : ∃ T', TX W2 g T' (.slice ao n cap) ∧ T'.rc = 3 + 5 * (q % 7) := by subst hV; exact ⟨_, HX1.out.s2 _, rfl⟩
  have HX2 := Lib.hid hx
  have HRC2 := Lib.hid hr
  have HY := Lib.hid (show TX W2 (g + 1) t0 (.slice none 0 0) by subst hV; exact HY.out.other (by simp) _)
  have HB := Lib.hid (show Below w.heap.size w W2 by subst hV; exact HB.out.setCell (by simp [HG.out]) _)
  clear hV hx hr x2 xf
  have x := HX2.out
  have x6 := x.c6
  have xf := x.f
  clear x
  go_upto_region 4 with (fail)
  generalize hV : World.setCell W2 ⟨g, 6, none⟩ (.int .i64 _) = W3
  obtain ⟨T3, hx, hr, hu⟩ : ∃ T', TX W3 g T' (.slice ao n cap) ∧ T'.rc = 3 + 5 * (q % 7) ∧ ad T'.cu 0 = T'.cu := by subst hV; exact ⟨_, HX2.out.s6 _, HRC2.out, adw _⟩
  have HX3 := Lib.hid hx
  have HRC3 := Lib.hid hr
  have HCU3 := Lib.hid hu
  have HY := Lib.hid (show TX W3 (g + 1) t0 (.slice none 0 0) by subst hV; exact HY.out.other (by simp) _)
  have HB := Lib.hid (show Below w.heap.size w W3 by subst hV; exact HB.out.setCell (by simp [HG.out]) _)
  clear hV hx hr hu x6 xf
  have x := HX3.out
  have x7 := x.c7
  have xf := x.f
  clear x
  go_upto_region 5 with (fail)
  generalize hV : World.setCell W3 ⟨g, 7, none⟩ (.int .i64 _) = W4
  obtain ⟨T4, hx, hr, hu⟩ : ∃ T', TX W4 g T' (.slice ao n cap) ∧ T'.rc = 3 + 5 * (q % 7) ∧ ad T'.cu 0 = T'.cu := by subst hV; exact ⟨_, HX3.out.s7 _, HRC3.out, HCU3.out⟩
  have HX4 := Lib.hid hx
  have HRC4 := Lib.hid hr
  have HCU4 := Lib.hid hu
  have HY := Lib.hid (show TX W4 (g + 1) t0 (.slice none 0 0) by subst hV; exact HY.out.other (by simp) _)
  have HB := Lib.hid (show Below w.heap.size w W4 by subst hV; exact HB.out.setCell (by simp [HG.out]) _)
  clear hV hx hr hu x7 xf
  have x := HX4.out
  have x8 := x.c8
  have xf := x.f
  clear x
  go_upto_region 6 with (fail)
  generalize hV : World.setCell W4 ⟨g, 8, none⟩ (.int .i64 _) = W5
  obtain ⟨T5, hx, hr, hu⟩ : ∃ T', TX W5 g T' (.slice ao n cap) ∧ T'.rc = 3 + 5 * (q % 7) ∧ ad T'.cu 0 = T'.cu := by subst hV; exact ⟨_, HX4.out.s8 _, HRC4.out, HCU4.out⟩
  have HX5 := Lib.hid hx
  have HRC5 := Lib.hid hr
  have HCU5 := Lib.hid hu
  have HY := Lib.hid (show TX W5 (g + 1) t0 (.slice none 0 0) by subst hV; exact HY.out.other (by simp) _)
  have HB := Lib.hid (show Below w.heap.size w W5 by subst hV; exact HB.out.setCell (by simp [HG.out]) _)
  clear hV hx hr hu x8 xf
  have x := HX5.out
  have x9 := x.c9
  have xf := x.f
  clear x
  go_upto_region 7 with (fail)
  generalize hV : World.setCell W5 ⟨g, 9, none⟩ (.int .i64 _) = W6
  obtain ⟨T6, hx, hr, hu⟩ : ∃ T', TX W6 g T' (.slice ao n cap) ∧ T'.rc = 3 + 5 * (q % 7) ∧ ad T'.cu 0 = T'.cu := by subst hV; exact ⟨_, HX5.out.s9 _, HRC5.out, HCU5.out⟩
  have HX6 := Lib.hid hx
  have HRC6 := Lib.hid hr
  have HCU6 := Lib.hid hu
  have HY := Lib.hid (show TX W6 (g + 1) t0 (.slice none 0 0) by subst hV; exact HY.out.other (by simp) _)
  have HB := Lib.hid (show Below w.heap.size w W6 by subst hV; exact HB.out.setCell (by simp [HG.out]) _)
  clear hV hx hr hu x9 xf
  have x := HX6.out
  have x5 := x.c5
  have xf := x.f
  clear x
  go_upto_region 8 with (fail)
  generalize hV : World.setCell W6 ⟨g, 5, none⟩ (.int .i64 _) = W7
  obtain ⟨T7, hx, hr, hu⟩ : ∃ T', TX W7 g T' (.slice ao n cap) ∧ T'.rc = 3 + 5 * (q % 7) ∧ ad T'.cu 0 = T'.cu := by subst hV; exact ⟨_, HX6.out.s5 _, HRC6.out, HCU6.out⟩
  have HX7 := Lib.hid hx
  have HRC7 := Lib.hid hr
  have HCU7 := Lib.hid hu
  have HY := Lib.hid (show TX W7 (g + 1) t0 (.slice none 0 0) by subst hV; exact HY.out.other (by simp) _)
  have HB := Lib.hid (show Below w.heap.size w W7 by subst hV; exact HB.out.setCell (by simp [HG.out]) _)
  clear hV hx hr hu x5 xf
  have x := HX7.out
  have x4 := x.c4
  have xf := x.f
  clear x
  go_upto_region 9 with (fail)
  generalize hV : World.setCell W7 ⟨g, 4, none⟩ (.int .i64 _) = W8
  obtain ⟨T8, hx, hr, hu⟩ : ∃ T', TX W8 g T' (.slice ao n cap) ∧ T'.rc = 3 + 5 * (q % 7) ∧ ad T'.cu 0 = T'.cu := by subst hV; exact ⟨_, HX7.out.s4 _, HRC7.out, HCU7.out⟩
  have HX8 := Lib.hid hx
  have HRC8 := Lib.hid hr
  have HCU8 := Lib.hid hu
  have HY := Lib.hid (show TX W8 (g + 1) t0 (.slice none 0 0) by subst hV; exact HY.out.other (by simp) _)
  have HB := Lib.hid (show Below w.heap.size w W8 by subst hV; exact HB.out.setCell (by simp [HG.out]) _)
  clear hV hx hr hu x4 xf
  have x := HX8.out
  have x11 := x.c11
  have xf := x.f
  clear x
  go_upto_region 10 with (fail)
  generalize hV : World.setCell W8 ⟨g, 11, none⟩ (.int .i64 _) = W9
  obtain ⟨T9, hx, hr, hu⟩ : ∃ T', TX W9 g T' (.slice ao n cap) ∧ T'.rc = 3 + 5 * (q % 7) ∧ ad T'.cu 0 = T'.cu := by subst hV; exact ⟨_, HX8.out.s11 _, HRC8.out, HCU8.out⟩
  have HX9 := Lib.hid hx
  have HRC9 := Lib.hid hr
  have HCU9 := Lib.hid hu
  have HY := Lib.hid (show TX W9 (g + 1) t0 (.slice none 0 0) by subst hV; exact HY.out.other (by simp) _)
  have HB := Lib.hid (show Below w.heap.size w W9 by subst hV; exact HB.out.setCell (by simp [HG.out]) _)
  clear hV hx hr hu x11 xf
  have x := HX9.out
  have x10 := x.c10
  have xf := x.f
  clear x
  go_upto_region 11 with (fail)
  generalize hV : World.setCell W9 ⟨g, 10, none⟩ (.int .i64 _) = W10
  obtain ⟨T10, hx, hr, hu⟩ : ∃ T', TX W10 g T' (.slice ao n cap) ∧ T'.rc = 3 + 5 * (q % 7) ∧ ad T'.cu 0 = T'.cu := by subst hV; exact ⟨_, HX9.out.s10 _, HRC9.out, HCU9.out⟩
  have HX10 := Lib.hid hx
  have HRC10 := Lib.hid hr
  have HCU10 := Lib.hid hu
  have HY := Lib.hid (show TX W10 (g + 1) t0 (.slice none 0 0) by subst hV; exact HY.out.other (by simp) _)
  have HB := Lib.hid (show Below w.heap.size w W10 by subst hV; exact HB.out.setCell (by simp [HG.out]) _)
  clear hV hx hr hu x10 xf
  have x := HX10.out
  have c0 := x.c0
  have c1 := x.c1
  have c2 := x.c2
  have c3 := x.c3
  have c4 := x.c4
  have c5 := x.c5
  have c6 := x.c6
  have c7 := x.c7
  have c8 := x.c8
  have c9 := x.c9
  have c10 := x.c10
  have c11 := x.c11
  have c12 := x.c12
  have y := HY.out
  have yf := y.f
  have r0 := y.c0
  have r1 := y.c1
  have r2 := y.c2
  have r3 := y.c3
  have r4 := y.c4
  have r5 := y.c5
  have r6 := y.c6
  have r7 := y.c7
  have r8 := y.c8
  have r9 := y.c9
  have r10 := y.c10
  have r11 := y.c11
  have r12 := y.c12
  have Z := Lib.hid (HY.out.all T10 (.slice ao n cap))
  clear x y
  go_wp2
  change bodyPost _ _ _ _ _ (setT W10 (g + 1) T10 (.slice ao n cap))
  have z := Z.out
  refine bodyPost_ret (v := thV T10 (.slice ao n cap)) (by simp [results, Try.results11, go_sem, thV, z.c0, z.c1, z.c2, z.c3, z.c4, z.c5, z.c6, z.c7, z.c8, z.c9, z.c10, z.c11, z.c12]) rfl ⟨T10, rfl, HRC10.out, HCU10.out, setT_below HB.out (by have := HG.out; omega) _ _⟩

end Go.Proofs.Ytfnjbbokbdddpaa.M2
