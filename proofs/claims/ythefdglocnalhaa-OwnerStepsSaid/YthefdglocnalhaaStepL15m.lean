/-
  reaperlaw15.step tells true: Step, Begin and Asks of package owner at a memory of whatever numbers are the document's. Conditions: at most 150 numbers; a thread with a batch of at most a million items, that lies in memory.
-/
import Derived.Test.YthefdglocnalhaaStep15m
import Derived.Test.YthefdglocnalhaaBegin15m
import Derived.Test.YthefdglocnalhaaSame15m
import Derived.Test.YthefdglocnalhaaRefW15m
import Derived.Test.YthefdglocnalhaaRefB15m
import Derived.Test.YthefdglocnalhaaMemoN15m
import Derived.Test.YthefdglocnalhaaRunN15m
namespace Go.Proofs.Ythefdglocnalhaa.M2
open Go.RowKit

/-- All boxes ahead of what is asked at the end. -/
structure SE (w : World) (p gt gu gx gn gv gy ga gb : Nat) (v : Value) (t T G : Th) (ao ao' ao3 : Option Addr) (n cap cap' cap3 : Nat) (l : List (Int × Int × Int)) (rk rv : Int) (size : Int) (a5 : Option Addr) (len' cu5 : Nat) (zs : List Int) (st : Int) (W : World) : Prop where
  fd : ∃ w0, DM w0 p v (.slice a5 len' cu5) size zs st zs W
  fe : zs.length = len'
  ft : TX W gt t (.slice ao n cap)
  fu : TX W gu T (.slice ao' n cap')
  fx : RB W gx rk rv
  fn : Boxed W gn (.int .i64 size) (.slice a5 len' cu5) (.int .i64 st)
  fv : TX W gv T (.slice ao n cap)
  fy : RB W gy rk rv
  fa : TX W ga G (.slice ao3 n cap3)
  fb : TX W gb G (.slice ao n cap)
  i1 : Its W ao n l
  i2 : Its W ao' n l
  i3 : Its W ao3 n l
  lo : Below w.heap.size w W
section
variable {w W V : World} {p gt gu gx gn gv gy ga gb : Nat} {v : Value} {t T G : Th} {ao ao' ao3 : Option Addr} {n cap cap' cap3 : Nat} {l : List (Int × Int × Int)} {rk rv : Int} {size : Int} {a5 : Option Addr} {len' cu5 : Nat} {zs : List Int} {st : Int}
theorem SE.fresh (h : SE w p gt gu gx gn gv gy ga gb v t T G ao ao' ao3 n cap cap' cap3 l rk rv size a5 len' cu5 zs st W) (hb : Below W.heap.size W V) : SE w p gt gu gx gn gv gy ga gb v t T G ao ao' ao3 n cap cap' cap3 l rk rv size a5 len' cu5 zs st V :=
  ⟨h.fd.imp fun _ d => d.fresh hb, h.fe, h.ft.keep hb, h.fu.keep hb, h.fx.keep hb, h.fn.keep hb, h.fv.keep hb, h.fy.keep hb, h.fa.keep hb, h.fb.keep hb, h.i1.keep hb, h.i2.keep hb, h.i3.keep hb, h.lo.trans (hb.mono h.lo.size)⟩
theorem SE.cells (h : SE w p gt gu gx gn gv gy ga gb v t T G ao ao' ao3 n cap cap' cap3 l rk rv size a5 len' cu5 zs st W) : W.cell? ⟨gt, 0, none⟩ = some (.int .i64 t.ti) ∧ W.cell? ⟨gt, 1, none⟩ = some (.int .i64 t.pc) ∧ W.cell? ⟨gt, 2, none⟩ = some (.int .i64 t.rc) ∧ W.cell? ⟨gt, 3, none⟩ = some (.int .i64 t.sq) ∧ W.cell? ⟨gt, 4, none⟩ = some (.int .i64 t.wo) ∧ W.cell? ⟨gt, 5, none⟩ = some (.int .i64 t.lk) ∧ W.cell? ⟨gt, 6, none⟩ = some (.int .i64 t.cu) ∧ W.cell? ⟨gt, 7, none⟩ = some (.int .i64 t.pv) ∧ W.cell? ⟨gt, 8, none⟩ = some (.int .i64 t.nt) ∧ W.cell? ⟨gt, 9, none⟩ = some (.int .i64 t.mx) ∧ W.cell? ⟨gt, 10, none⟩ = some (.int .i64 t.ps) ∧ W.cell? ⟨gt, 11, none⟩ = some (.int .i64 t.rn) ∧ W.cell? ⟨gt, 12, none⟩ = some (.slice ao n cap) ∧ W.cell? ⟨gu, 0, none⟩ = some (.int .i64 T.ti) ∧ W.cell? ⟨gu, 1, none⟩ = some (.int .i64 T.pc) ∧ W.cell? ⟨gu, 2, none⟩ = some (.int .i64 T.rc) ∧ W.cell? ⟨gu, 3, none⟩ = some (.int .i64 T.sq) ∧ W.cell? ⟨gu, 4, none⟩ = some (.int .i64 T.wo) ∧ W.cell? ⟨gu, 5, none⟩ = some (.int .i64 T.lk) ∧ W.cell? ⟨gu, 6, none⟩ = some (.int .i64 T.cu) ∧ W.cell? ⟨gu, 7, none⟩ = some (.int .i64 T.pv) ∧ W.cell? ⟨gu, 8, none⟩ = some (.int .i64 T.nt) ∧ W.cell? ⟨gu, 9, none⟩ = some (.int .i64 T.mx) ∧ W.cell? ⟨gu, 10, none⟩ = some (.int .i64 T.ps) ∧ W.cell? ⟨gu, 11, none⟩ = some (.int .i64 T.rn) ∧ W.cell? ⟨gu, 12, none⟩ = some (.slice ao' n cap') ∧ W.cell? ⟨gv, 0, none⟩ = some (.int .i64 T.ti) ∧ W.cell? ⟨gv, 1, none⟩ = some (.int .i64 T.pc) ∧ W.cell? ⟨gv, 2, none⟩ = some (.int .i64 T.rc) ∧ W.cell? ⟨gv, 3, none⟩ = some (.int .i64 T.sq) ∧ W.cell? ⟨gv, 4, none⟩ = some (.int .i64 T.wo) ∧ W.cell? ⟨gv, 5, none⟩ = some (.int .i64 T.lk) ∧ W.cell? ⟨gv, 6, none⟩ = some (.int .i64 T.cu) ∧ W.cell? ⟨gv, 7, none⟩ = some (.int .i64 T.pv) ∧ W.cell? ⟨gv, 8, none⟩ = some (.int .i64 T.nt) ∧ W.cell? ⟨gv, 9, none⟩ = some (.int .i64 T.mx) ∧ W.cell? ⟨gv, 10, none⟩ = some (.int .i64 T.ps) ∧ W.cell? ⟨gv, 11, none⟩ = some (.int .i64 T.rn) ∧ W.cell? ⟨gv, 12, none⟩ = some (.slice ao n cap) ∧ W.cell? ⟨ga, 0, none⟩ = some (.int .i64 G.ti) ∧ W.cell? ⟨ga, 1, none⟩ = some (.int .i64 G.pc) ∧ W.cell? ⟨ga, 2, none⟩ = some (.int .i64 G.rc) ∧ W.cell? ⟨ga, 3, none⟩ = some (.int .i64 G.sq) ∧ W.cell? ⟨ga, 4, none⟩ = some (.int .i64 G.wo) ∧ W.cell? ⟨ga, 5, none⟩ = some (.int .i64 G.lk) ∧ W.cell? ⟨ga, 6, none⟩ = some (.int .i64 G.cu) ∧ W.cell? ⟨ga, 7, none⟩ = some (.int .i64 G.pv) ∧ W.cell? ⟨ga, 8, none⟩ = some (.int .i64 G.nt) ∧ W.cell? ⟨ga, 9, none⟩ = some (.int .i64 G.mx) ∧ W.cell? ⟨ga, 10, none⟩ = some (.int .i64 G.ps) ∧ W.cell? ⟨ga, 11, none⟩ = some (.int .i64 G.rn) ∧ W.cell? ⟨ga, 12, none⟩ = some (.slice ao3 n cap3) ∧ W.cell? ⟨gb, 0, none⟩ = some (.int .i64 G.ti) ∧ W.cell? ⟨gb, 1, none⟩ = some (.int .i64 G.pc) ∧ W.cell? ⟨gb, 2, none⟩ = some (.int .i64 G.rc) ∧ W.cell? ⟨gb, 3, none⟩ = some (.int .i64 G.sq) ∧ W.cell? ⟨gb, 4, none⟩ = some (.int .i64 G.wo) ∧ W.cell? ⟨gb, 5, none⟩ = some (.int .i64 G.lk) ∧ W.cell? ⟨gb, 6, none⟩ = some (.int .i64 G.cu) ∧ W.cell? ⟨gb, 7, none⟩ = some (.int .i64 G.pv) ∧ W.cell? ⟨gb, 8, none⟩ = some (.int .i64 G.nt) ∧ W.cell? ⟨gb, 9, none⟩ = some (.int .i64 G.mx) ∧ W.cell? ⟨gb, 10, none⟩ = some (.int .i64 G.ps) ∧ W.cell? ⟨gb, 11, none⟩ = some (.int .i64 G.rn) ∧ W.cell? ⟨gb, 12, none⟩ = some (.slice ao n cap) ∧ W.cell? ⟨gx, 0, none⟩ = some (.int .u8 rk) ∧ W.cell? ⟨gx, 1, none⟩ = some (.int .i32 rv) ∧ W.cell? ⟨gy, 0, none⟩ = some (.int .u8 rk) ∧ W.cell? ⟨gy, 1, none⟩ = some (.int .i32 rv) ∧ W.cell? ⟨gn, 1, none⟩ = some (.slice a5 len' cu5) ∧ W.cell? ⟨gn, 2, none⟩ = some (.int .i64 st) :=
  ⟨h.ft.c0, h.ft.c1, h.ft.c2, h.ft.c3, h.ft.c4, h.ft.c5, h.ft.c6, h.ft.c7, h.ft.c8, h.ft.c9, h.ft.c10, h.ft.c11, h.ft.c12, h.fu.c0, h.fu.c1, h.fu.c2, h.fu.c3, h.fu.c4, h.fu.c5, h.fu.c6, h.fu.c7, h.fu.c8, h.fu.c9, h.fu.c10, h.fu.c11, h.fu.c12, h.fv.c0, h.fv.c1, h.fv.c2, h.fv.c3, h.fv.c4, h.fv.c5, h.fv.c6, h.fv.c7, h.fv.c8, h.fv.c9, h.fv.c10, h.fv.c11, h.fv.c12, h.fa.c0, h.fa.c1, h.fa.c2, h.fa.c3, h.fa.c4, h.fa.c5, h.fa.c6, h.fa.c7, h.fa.c8, h.fa.c9, h.fa.c10, h.fa.c11, h.fa.c12, h.fb.c0, h.fb.c1, h.fb.c2, h.fb.c3, h.fb.c4, h.fb.c5, h.fb.c6, h.fb.c7, h.fb.c8, h.fb.c9, h.fb.c10, h.fb.c11, h.fb.c12, h.fx.c0, h.fx.c1, h.fy.c0, h.fy.c1, h.fn.c1, h.fn.c2⟩
theorem SE.cellsE (h : SE w p gt gu gx gn gv gy ga gb v t T G ao ao' ao3 n cap cap' cap3 l rk rv size a5 len' cu5 zs st W) :
    Calls Try.prog 25 #[.pointer (some ⟨p, 0, none⟩)] W fun e w' => e = .returned (.slice (some ⟨W.heap.size, 0, none⟩) len' len') ∧ Reads .i64 w' (some ⟨W.heap.size, 0, none⟩) len' zs ∧ SE w p gt gu gx gn gv gy ga gb v t T G ao ao' ao3 n cap cap' cap3 l rk rv size a5 len' cu5 zs st w' := by
  obtain ⟨w0, d⟩ := h.fd
  have C := cells1 ⟨_, d.m⟩
  rw [h.fe] at C
  refine C.mono ?_
  rintro e w' ⟨rfl, o, b⟩
  obtain ⟨aq, cq, e, r, _⟩ := _root_.Go.Proofs.Ythefdglocnalhaa.reads_own o
  simp only [Value.slice.injEq] at e
  obtain ⟨rfl, _, rfl⟩ := e
  exact ⟨rfl, r, h.fresh b⟩
theorem SE.sameE (h : SE w p gt gu gx gn gv gy ga gb v t T G ao ao' ao3 n cap cap' cap3 l rk rv size a5 len' cu5 zs st W) {g : Option Addr} (r : Reads .i64 W g len' zs) :
    Calls Try.prog 24 #[.slice g len' len', .slice a5 len' cu5] W fun e w' => e = .returned (.bool true) ∧ SE w p gt gu gx gn gv gy ga gb v t T G ao ao' ao3 n cap cap' cap3 l rk rv size a5 len' cu5 zs st w' := by
  obtain ⟨w0, d⟩ := h.fd
  have o := d.o
  rw [h.fe] at o
  obtain ⟨aq, cq, e, r2, _⟩ := _root_.Go.Proofs.Ythefdglocnalhaa.reads_own o
  simp only [Value.slice.injEq] at e
  obtain ⟨rfl, _, rfl⟩ := e
  exact (sameEq W g a5 len' len' cu5 zs r r2 (by have := d.m.room; have := d.m.s1; have := h.fe; omega)).mono fun e w' ⟨he, hb⟩ => ⟨he, h.fresh hb⟩
theorem SE.stepsE (h : SE w p gt gu gx gn gv gy ga gb v t T G ao ao' ao3 n cap cap' cap3 l rk rv size a5 len' cu5 zs st W) :
    Calls Try.prog 30 #[.pointer (some ⟨p, 0, none⟩)] W fun e w' => e = .returned (.int .i64 st) ∧ W = w' := by
  obtain ⟨w0, d⟩ := h.fd
  exact steps1 ⟨_, d.m⟩
end

set_option maxRecDepth 100000 in
set_option maxHeartbeats 16000000 in
theorem stepLaw {w : World} (al : Option Addr) (ll cl : Nat) (zs : List Int) (hz : Reads .i64 w al ll zs) (hl : ll ≤ 150) (t : Th) (ao : Option Addr) (n cap : Nat) (l : List (Int × Int × Int)) (hi : Its w ao n l) (hn : n ≤ 1000000) (hc : ao = none → cap = 0) (hr : ad t.rc 0 = t.rc) (k v : Int) (ho : OpOk (k, v)) :
    Calls Try.prog 13 #[.slice al ll cl, thV t (.slice ao n cap), .agg #[.int .u8 k, .int .i32 v]] w fun e w' => e = .returned (.bool true) ∧ Below w.heap.size w w' := by
  rw [show thV t (.slice ao n cap) = .agg #[.int .i64 t.ti, .int .i64 t.pc, .int .i64 t.rc, .int .i64 t.sq, .int .i64 t.wo, .int .i64 t.lk, .int .i64 t.cu, .int .i64 t.pv, .int .i64 t.nt, .int .i64 t.mx, .int .i64 t.ps, .int .i64 t.rn, .slice ao n cap] from rfl]
  obtain rfl : zs.length = ll := hz.1
  have HZ := Lib.hid hz
  have HL := Lib.hid hl
  have HI := Lib.hid hi
  have HN := Lib.hid hn
  have HC := Lib.hid hc
  have HRR := Lib.hid hr
  have HO := Lib.hid ho
  clear hz hl hi hn hc hr ho
  obtain ⟨len, hlen⟩ : ∃ n, zs.length = n := ⟨_, rfl⟩
  rw [hlen] at HZ HL ⊢
  have HE := Lib.hid hlen
  clear hlen
  go_enter Try.func13, Try.ntmps13
  go_wp2_with fail
  generalize hW : (w.alloc (.cells #[.int .i64 t.ti, .int .i64 t.pc, .int .i64 t.rc, .int .i64 t.sq, .int .i64 t.wo, .int .i64 t.lk, .int .i64 t.cu, .int .i64 t.pv, .int .i64 t.nt, .int .i64 t.mx, .int .i64 t.ps, .int .i64 t.rn, .slice ao n cap] 25)).alloc (.cells #[.int .u8 k, .int .i32 v] 27) = W
  have HT := Lib.hid (show TX W w.heap.size t (.slice ao n cap) by subst hW; exact (TX.new w t _).alloc _)
  have HOB := Lib.hid (show OBx W (w.heap.size + 1) k v by
    subst hW
    have := OBx.new (w.alloc (.cells #[.int .i64 t.ti, .int .i64 t.pc, .int .i64 t.rc, .int .i64 t.sq, .int .i64 t.wo, .int .i64 t.lk, .int .i64 t.cu, .int .i64 t.pv, .int .i64 t.nt, .int .i64 t.mx, .int .i64 t.ps, .int .i64 t.rn, .slice ao n cap] 25)) k v
    simpa using this)
  have HB := Lib.hid (show Below w.heap.size w W by subst hW; exact ((Below.refl _ _).alloc (Nat.le_refl _) _).alloc (by simp) _)
  clear hW
  have HZW := Lib.hid (HZ.out.keep HB.out)
  generalize w.heap.size + 1 = go at *
  with_reducible refine (memoryTwo W al len cl zs HZW.out (by have := HL.out; omega)).mono ?_
  rintro e w1 ⟨p, u, vv, rfl, m1, o1, n1, b1⟩
  have HD := Lib.hid (show DM W p vv u (len : Int) zs (1 + (len : Int)) zs w1 from ⟨by rw [← HE.out]; exact m1, o1, n1, b1⟩)
  have HT := Lib.hid (HT.out.keep b1)
  have HOB := Lib.hid (HOB.out.keep b1)
  obtain ⟨au, cu, eu⟩ := ownShape o1
  rw [HE.out] at eu ⊢
  subst eu
  clear m1 o1 n1 b1 HZW
  go_upto_region 2 with (fail)
  generalize hW2 : w1.alloc (.cells #[.int .i64 (len : Int), .slice au len cu, .int .i64 (1 + (len : Int))] 37) = W2
  have f2 : Below w1.heap.size w1 W2 := by subst hW2; exact (Below.refl _ _).alloc (Nat.le_refl _) _
  have HR := Lib.hid (show Boxed W2 w1.heap.size (.int .i64 (len : Int)) (.slice au len cu) (.int .i64 (1 + (len : Int))) by subst hW2; exact Boxed.new _ _ _ _)
  have HD := Lib.hid (HD.out.fresh f2)
  have HT := Lib.hid (HT.out.keep f2)
  have HOB := Lib.hid (HOB.out.keep f2)
  clear f2 hW2
  generalize w1.heap.size = g6 at *
  have HI2 := Lib.hid (HI.out.keep (HB.out.trans (HD.out.b.mono HB.out.size)))
  have C := stepO W2 HD.out.m t ao n cap l HI2.out HN.out HC.out HRR.out (by omega) (by have := HL.out; omega)
  rw [show thV t (.slice ao n cap) = .agg #[.int .i64 t.ti, .int .i64 t.pc, .int .i64 t.rc, .int .i64 t.sq, .int .i64 t.wo, .int .i64 t.lk, .int .i64 t.cu, .int .i64 t.pv, .int .i64 t.nt, .int .i64 t.mx, .int .i64 t.ps, .int .i64 t.rn, .slice ao n cap] from rfl] at C
  have HCC := Lib.hid C
  clear C
  have x := HT.out
  have c0 := x.c0
  have c1 := x.c1
  have c2 := x.c2
  have c3 := x.c3
  have c4 := x.c4
  have c5 := x.c5
  have c6 := x.c6
  have c7 := x.c7
  have c8 := x.c8
  have c9 := x.c9
  have c10 := x.c10
  have c11 := x.c11
  have c12 := x.c12
  clear x
  go_wp2_with fail
  with_reducible refine HCC.out.mono ?_
  clear HCC c0 c1 c2 c3 c4 c5 c6 c7 c8 c9 c10 c11 c12
  rintro e w3 ⟨ao', cap', rfl, d3, i3, l3, n3⟩
  have k3 := d3.kept HD.out.m
  obtain ⟨v3, D3⟩ := HD.out.did d3
  obtain ⟨T, hT⟩ : ∃ T, (stp (len : Int) t zs).t = T := ⟨_, rfl⟩
  obtain ⟨zs', hzs⟩ : ∃ y, (stp (len : Int) t zs).zs = y := ⟨_, rfl⟩
  obtain ⟨st', hst⟩ : ∃ y, 1 + (len : Int) + (stp (len : Int) t zs).c = y := ⟨_, rfl⟩
  obtain ⟨rk, hrk⟩ : ∃ y, (stp (len : Int) t zs).k = y := ⟨_, rfl⟩
  obtain ⟨rv, hrv⟩ : ∃ y, (stp (len : Int) t zs).v = y := ⟨_, rfl⟩
  obtain ⟨rd, hrd⟩ : ∃ y, (stp (len : Int) t zs).d = y := ⟨_, rfl⟩
  rw [hzs, hst] at D3
  rw [hT, hrk, hrv, hrd, show thV T (.slice ao' n cap') = .agg #[.int .i64 T.ti, .int .i64 T.pc, .int .i64 T.rc, .int .i64 T.sq, .int .i64 T.wo, .int .i64 T.lk, .int .i64 T.cu, .int .i64 T.pv, .int .i64 T.nt, .int .i64 T.mx, .int .i64 T.ps, .int .i64 T.rn, .slice ao' n cap'] from rfl]
  have HEQ := Lib.hid (And.intro hT (And.intro hzs (And.intro hst (And.intro hrk (And.intro hrv hrd)))))
  clear hT hzs hst hrk hrv hrd d3 HI2
  have HD1 := HD
  have HD := Lib.hid D3
  have HR := Lib.hid (HR.out.off k3)
  have HT := Lib.hid (HT.out.off k3)
  have HOB := Lib.hid (HOB.out.off k3)
  have HI3 := Lib.hid i3
  clear D3 k3 i3 l3 n3 HD1
  go_upto_region 5 with (fail)
  generalize hW4 : (w3.alloc (.cells #[.int .i64 T.ti, .int .i64 T.pc, .int .i64 T.rc, .int .i64 T.sq, .int .i64 T.wo, .int .i64 T.lk, .int .i64 T.cu, .int .i64 T.pv, .int .i64 T.nt, .int .i64 T.mx, .int .i64 T.ps, .int .i64 T.rn, .slice ao' n cap'] 25)).alloc (.cells #[.int .u8 rk, .int .i32 rv] 49) = W4
  have f4 : Below w3.heap.size w3 W4 := by subst hW4; exact ((Below.refl _ _).alloc (Nat.le_refl _) _).alloc (by simp) _
  have HU := Lib.hid (show TX W4 w3.heap.size T (.slice ao' n cap') by subst hW4; exact (TX.new w3 T _).alloc _)
  have HX := Lib.hid (show RB W4 (w3.heap.size + 1) rk rv by
    subst hW4
    have := RB.new (w3.alloc (.cells #[.int .i64 T.ti, .int .i64 T.pc, .int .i64 T.rc, .int .i64 T.sq, .int .i64 T.wo, .int .i64 T.lk, .int .i64 T.cu, .int .i64 T.pv, .int .i64 T.nt, .int .i64 T.mx, .int .i64 T.ps, .int .i64 T.rn, .slice ao' n cap'] 25)) rk rv
    simpa using this)
  have HD := Lib.hid (HD.out.fresh f4)
  have HR := Lib.hid (HR.out.keep f4)
  have HT := Lib.hid (HT.out.keep f4)
  have HOB := Lib.hid (HOB.out.keep f4)
  have HI3 := Lib.hid (HI3.out.keep f4)
  clear hW4 f4
  generalize w3.heap.size + 1 = gx at *
  generalize w3.heap.size = gu at *
  have C := refStep (st := 1 + (len : Int)) (size := (len : Int)) HD.out.o HD.out.b.size (by have := HL.out; have := HE.out; omega) t ao n cap (by omega) (by have := HL.out; omega)
  rw [show thV t (.slice ao n cap) = .agg #[.int .i64 t.ti, .int .i64 t.pc, .int .i64 t.rc, .int .i64 t.sq, .int .i64 t.wo, .int .i64 t.lk, .int .i64 t.cu, .int .i64 t.pv, .int .i64 t.nt, .int .i64 t.mx, .int .i64 t.ps, .int .i64 t.rn, .slice ao n cap] from rfl] at C
  have HCC := Lib.hid C
  clear C
  have x := HT.out
  have c0 := x.c0
  have c1 := x.c1
  have c2 := x.c2
  have c3 := x.c3
  have c4 := x.c4
  have c5 := x.c5
  have c6 := x.c6
  have c7 := x.c7
  have c8 := x.c8
  have c9 := x.c9
  have c10 := x.c10
  have c11 := x.c11
  have c12 := x.c12
  have r0 := HR.out.c0
  have r1 := HR.out.c1
  have r2 := HR.out.c2
  clear x
  go_wp2_with fail
  with_reducible refine HCC.out.mono ?_
  clear HCC r0 r1 r2 c0 c1 c2 c3 c4 c5 c6 c7 c8 c9 c10 c11 c12
  rintro e w5 ⟨u', rfl, l5⟩
  rw [HEQ.out.1, HEQ.out.2.2.1, HEQ.out.2.2.2.1, HEQ.out.2.2.2.2.1, HEQ.out.2.2.2.2.2, show thV T (.slice ao n cap) = .agg #[.int .i64 T.ti, .int .i64 T.pc, .int .i64 T.rc, .int .i64 T.sq, .int .i64 T.wo, .int .i64 T.lk, .int .i64 T.cu, .int .i64 T.pv, .int .i64 T.nt, .int .i64 T.mx, .int .i64 T.ps, .int .i64 T.rn, .slice ao n cap] from rfl]
  rw [HEQ.out.2.1] at l5
  obtain ⟨a5, cu5, e5⟩ := ownShape l5.1
  subst e5
  obtain ⟨len', hlen'⟩ : ∃ n, zs'.length = n := ⟨_, rfl⟩
  rw [hlen'] at l5 ⊢
  have HE' := Lib.hid hlen'
  clear hlen'
  have D5 := HD.out.left l5
  have b5 := l5.2.2
  clear l5
  go_upto_region 6 with (fail)
  generalize hW6 : ((w5.alloc (.cells #[.int .i64 (len : Int), .slice a5 len' cu5, .int .i64 st'] 37)).alloc (.cells #[.int .i64 T.ti, .int .i64 T.pc, .int .i64 T.rc, .int .i64 T.sq, .int .i64 T.wo, .int .i64 T.lk, .int .i64 T.cu, .int .i64 T.pv, .int .i64 T.nt, .int .i64 T.mx, .int .i64 T.ps, .int .i64 T.rn, .slice ao n cap] 25)).alloc (.cells #[.int .u8 rk, .int .i32 rv] 49) = W6
  have f6 : Below w5.heap.size w5 W6 := by subst hW6; exact (((Below.refl _ _).alloc (Nat.le_refl _) _).alloc (by simp) _).alloc (by simp; omega) _
  have HN6 := Lib.hid (show Boxed W6 w5.heap.size (.int .i64 (len : Int)) (.slice a5 len' cu5) (.int .i64 st') by subst hW6; exact ((Boxed.new _ _ _ _).alloc _).alloc _)
  have HV := Lib.hid (show TX W6 (w5.heap.size + 1) T (.slice ao n cap) by
    subst hW6
    have := (TX.new (w5.alloc (.cells #[.int .i64 (len : Int), .slice a5 len' cu5, .int .i64 st'] 37)) T (.slice ao n cap)).alloc (.cells #[.int .u8 rk, .int .i32 rv] 49)
    simpa using this)
  have HY := Lib.hid (show RB W6 (w5.heap.size + 1 + 1) rk rv by
    subst hW6
    have := RB.new ((w5.alloc (.cells #[.int .i64 (len : Int), .slice a5 len' cu5, .int .i64 st'] 37)).alloc (.cells #[.int .i64 T.ti, .int .i64 T.pc, .int .i64 T.rc, .int .i64 T.sq, .int .i64 T.wo, .int .i64 T.lk, .int .i64 T.cu, .int .i64 T.pv, .int .i64 T.nt, .int .i64 T.mx, .int .i64 T.ps, .int .i64 T.rn, .slice ao n cap] 25)) rk rv
    simpa using this)
  have f6' := b5.trans (f6.mono b5.size)
  have HD := Lib.hid (D5.fresh f6)
  have HT := Lib.hid (HT.out.keep f6')
  have HOB := Lib.hid (HOB.out.keep f6')
  have HI3 := Lib.hid (HI3.out.keep f6')
  have HU := Lib.hid (HU.out.keep f6')
  have HX := Lib.hid (HX.out.keep f6')
  clear hW6 f6 f6' b5 D5 HR
  generalize w5.heap.size + 1 + 1 = gy at *
  generalize w5.heap.size + 1 = gv at *
  generalize w5.heap.size = gn at *
  have HI2 := Lib.hid (HI.out.keep (HB.out.trans (HD.out.b.mono HB.out.size)))
  have C := beginO W6 t ao n cap l HI2.out HN.out HC.out k v HO.out
  rw [show thV t (.slice ao n cap) = .agg #[.int .i64 t.ti, .int .i64 t.pc, .int .i64 t.rc, .int .i64 t.sq, .int .i64 t.wo, .int .i64 t.lk, .int .i64 t.cu, .int .i64 t.pv, .int .i64 t.nt, .int .i64 t.mx, .int .i64 t.ps, .int .i64 t.rn, .slice ao n cap] from rfl] at C
  have HCC := Lib.hid C
  clear C
  have x := HT.out
  have c0 := x.c0
  have c1 := x.c1
  have c2 := x.c2
  have c3 := x.c3
  have c4 := x.c4
  have c5 := x.c5
  have c6 := x.c6
  have c7 := x.c7
  have c8 := x.c8
  have c9 := x.c9
  have c10 := x.c10
  have c11 := x.c11
  have c12 := x.c12
  have o0 := HOB.out.c0
  have o1 := HOB.out.c1
  clear x
  go_wp2_with fail
  with_reducible refine HCC.out.mono ?_
  clear HCC o0 o1 c0 c1 c2 c3 c4 c5 c6 c7 c8 c9 c10 c11 c12
  rintro e w7 ⟨ao3, cap3, rfl, cp⟩
  obtain ⟨G, hG⟩ : ∃ G, bgT t (wd k v) = G := ⟨_, rfl⟩
  obtain ⟨bb, hbb⟩ : ∃ y, (t.pc == 0) = y := ⟨_, rfl⟩
  rw [hG, hbb, show thV G (.slice ao3 n cap3) = .agg #[.int .i64 G.ti, .int .i64 G.pc, .int .i64 G.rc, .int .i64 G.sq, .int .i64 G.wo, .int .i64 G.lk, .int .i64 G.cu, .int .i64 G.pv, .int .i64 G.nt, .int .i64 G.mx, .int .i64 G.ps, .int .i64 G.rn, .slice ao3 n cap3] from rfl]
  have HGB := Lib.hid (And.intro hG hbb)
  clear hG hbb HI2
  obtain ⟨i7, _, b7, _⟩ := cp
  go_upto_region 7 with (fail)
  generalize hW8 : w7.alloc (.cells #[.int .i64 G.ti, .int .i64 G.pc, .int .i64 G.rc, .int .i64 G.sq, .int .i64 G.wo, .int .i64 G.lk, .int .i64 G.cu, .int .i64 G.pv, .int .i64 G.nt, .int .i64 G.mx, .int .i64 G.ps, .int .i64 G.rn, .slice ao3 n cap3] 25) = W8
  have f8 : Below w7.heap.size w7 W8 := by subst hW8; exact (Below.refl _ _).alloc (Nat.le_refl _) _
  have HA := Lib.hid (show TX W8 w7.heap.size G (.slice ao3 n cap3) by subst hW8; exact TX.new w7 G _)
  have f8' := b7.trans (f8.mono b7.size)
  have HI7 := Lib.hid (i7.keep f8)
  have HD := Lib.hid (HD.out.fresh f8')
  have HT := Lib.hid (HT.out.keep f8')
  have HOB := Lib.hid (HOB.out.keep f8')
  have HI3 := Lib.hid (HI3.out.keep f8')
  have HU := Lib.hid (HU.out.keep f8')
  have HX := Lib.hid (HX.out.keep f8')
  have HN6 := Lib.hid (HN6.out.keep f8')
  have HV := Lib.hid (HV.out.keep f8')
  have HY := Lib.hid (HY.out.keep f8')
  clear hW8 f8 f8' b7 i7
  generalize w7.heap.size = ga at *
  have C := refBegin W8 t ao n cap k v HO.out
  rw [show thV t (.slice ao n cap) = .agg #[.int .i64 t.ti, .int .i64 t.pc, .int .i64 t.rc, .int .i64 t.sq, .int .i64 t.wo, .int .i64 t.lk, .int .i64 t.cu, .int .i64 t.pv, .int .i64 t.nt, .int .i64 t.mx, .int .i64 t.ps, .int .i64 t.rn, .slice ao n cap] from rfl] at C
  have HCC := Lib.hid C
  clear C
  have x := HT.out
  have c0 := x.c0
  have c1 := x.c1
  have c2 := x.c2
  have c3 := x.c3
  have c4 := x.c4
  have c5 := x.c5
  have c6 := x.c6
  have c7 := x.c7
  have c8 := x.c8
  have c9 := x.c9
  have c10 := x.c10
  have c11 := x.c11
  have c12 := x.c12
  have o0 := HOB.out.c0
  have o1 := HOB.out.c1
  clear x
  go_wp2_with fail
  with_reducible refine HCC.out.mono ?_
  clear HCC o0 o1 c0 c1 c2 c3 c4 c5 c6 c7 c8 c9 c10 c11 c12
  rintro e w9 ⟨rfl, b9⟩
  rw [HGB.out.1, HGB.out.2, show thV G (.slice ao n cap) = .agg #[.int .i64 G.ti, .int .i64 G.pc, .int .i64 G.rc, .int .i64 G.sq, .int .i64 G.wo, .int .i64 G.lk, .int .i64 G.cu, .int .i64 G.pv, .int .i64 G.nt, .int .i64 G.mx, .int .i64 G.ps, .int .i64 G.rn, .slice ao n cap] from rfl]
  go_upto_region 8 with (fail)
  generalize hW10 : w9.alloc (.cells #[.int .i64 G.ti, .int .i64 G.pc, .int .i64 G.rc, .int .i64 G.sq, .int .i64 G.wo, .int .i64 G.lk, .int .i64 G.cu, .int .i64 G.pv, .int .i64 G.nt, .int .i64 G.mx, .int .i64 G.ps, .int .i64 G.rn, .slice ao n cap] 25) = W10
  have f10 : Below w9.heap.size w9 W10 := by subst hW10; exact (Below.refl _ _).alloc (Nat.le_refl _) _
  have HG := Lib.hid (show TX W10 w9.heap.size G (.slice ao n cap) by subst hW10; exact TX.new w9 G _)
  have f10' := b9.trans (f10.mono b9.size)
  have HSE := Lib.hid (show SE w p w.heap.size gu gx gn gv gy ga w9.heap.size v3 t T G ao ao' ao3 n cap cap' cap3 l rk rv (len : Int) a5 len' cu5 zs' st' W10 from
    ⟨⟨W, HD.out.fresh f10'⟩, HE'.out, HT.out.keep f10', HU.out.keep f10', HX.out.keep f10', HN6.out.keep f10', HV.out.keep f10', HY.out.keep f10', HA.out.keep f10', HG.out, HI.out.keep (HB.out.trans ((HD.out.fresh f10').b.mono HB.out.size)), HI3.out.keep f10', HI7.out.keep f10', HB.out.trans ((HD.out.fresh f10').b.mono HB.out.size)⟩)
  clear hW10 f10 f10' b9 HD HT HOB HI3 HU HX HN6 HV HY HA HG HI7 HI HC HRR HO HB HGB HEQ HE HE'
  generalize w9.heap.size = gb at *
  generalize w.heap.size = gt at *
  have HC1 := Lib.hid (fun (V : World) (h : SE w p gt gu gx gn gv gy ga gb v3 t T G ao ao' ao3 n cap cap' cap3 l rk rv (len : Int) a5 len' cu5 zs' st' V) => (show Calls Try.prog 23 #[.agg #[.int .i64 T.ti, .int .i64 T.pc, .int .i64 T.rc, .int .i64 T.sq, .int .i64 T.wo, .int .i64 T.lk, .int .i64 T.cu, .int .i64 T.pv, .int .i64 T.nt, .int .i64 T.mx, .int .i64 T.ps, .int .i64 T.rn, .slice ao' n cap'], .agg #[.int .i64 T.ti, .int .i64 T.pc, .int .i64 T.rc, .int .i64 T.sq, .int .i64 T.wo, .int .i64 T.lk, .int .i64 T.cu, .int .i64 T.pv, .int .i64 T.nt, .int .i64 T.mx, .int .i64 T.ps, .int .i64 T.rn, .slice ao n cap]] V fun e w' => e = .returned (.bool true) ∧ SE w p gt gu gx gn gv gy ga gb v3 t T G ao ao' ao3 n cap cap' cap3 l rk rv (len : Int) a5 len' cu5 zs' st' w' from (sameT V T ao' ao n cap' cap l h.i2 h.i1 HN.out).mono fun e w' ⟨he, hb⟩ => ⟨he, h.fresh hb⟩))
  have HC2 := Lib.hid (fun (V : World) (h : SE w p gt gu gx gn gv gy ga gb v3 t T G ao ao' ao3 n cap cap' cap3 l rk rv (len : Int) a5 len' cu5 zs' st' V) => h.cellsE)
  have HC3 := Lib.hid (fun (V : World) (g : Option Addr) (h : SE w p gt gu gx gn gv gy ga gb v3 t T G ao ao' ao3 n cap cap' cap3 l rk rv (len : Int) a5 len' cu5 zs' st' V) (r : Reads .i64 V g len' zs') => h.sameE r)
  have HC4 := Lib.hid (fun (V : World) (h : SE w p gt gu gx gn gv gy ga gb v3 t T G ao ao' ao3 n cap cap' cap3 l rk rv (len : Int) a5 len' cu5 zs' st' V) => h.stepsE)
  have HC5 := Lib.hid (fun (V : World) (h : SE w p gt gu gx gn gv gy ga gb v3 t T G ao ao' ao3 n cap cap' cap3 l rk rv (len : Int) a5 len' cu5 zs' st' V) => (show Calls Try.prog 23 #[.agg #[.int .i64 G.ti, .int .i64 G.pc, .int .i64 G.rc, .int .i64 G.sq, .int .i64 G.wo, .int .i64 G.lk, .int .i64 G.cu, .int .i64 G.pv, .int .i64 G.nt, .int .i64 G.mx, .int .i64 G.ps, .int .i64 G.rn, .slice ao3 n cap3], .agg #[.int .i64 G.ti, .int .i64 G.pc, .int .i64 G.rc, .int .i64 G.sq, .int .i64 G.wo, .int .i64 G.lk, .int .i64 G.cu, .int .i64 G.pv, .int .i64 G.nt, .int .i64 G.mx, .int .i64 G.ps, .int .i64 G.rn, .slice ao n cap]] V fun e w' => e = .returned (.bool true) ∧ SE w p gt gu gx gn gv gy ga gb v3 t T G ao ao' ao3 n cap cap' cap3 l rk rv (len : Int) a5 len' cu5 zs' st' w' from (sameT V G ao3 ao n cap3 cap l h.i3 h.i1 HN.out).mono fun e w' ⟨he, hb⟩ => ⟨he, h.fresh hb⟩))
  have HDR := Lib.hid (HSE.out.fresh (Below.refl _ _).drew)
  have i0 := HSE.out.cells
  have i1 := HDR.out.cells
  have heq := eqRes rk rv
  have HN0 := HN
  rcases (show t.pc < 1 ∨ (1 ≤ t.pc ∧ 16 < t.pc) ∨ (1 ≤ t.pc ∧ t.pc ≤ 16) from by omega) with hp | hp | hp
  · have HC6 := Lib.hid (fun (V : World) (h : SE w p gt gu gx gn gv gy ga gb v3 t T G ao ao' ao3 n cap cap' cap3 l rk rv (len : Int) a5 len' cu5 zs' st' V) => (show Calls Try.prog 31 #[.agg #[.int .i64 t.ti, .int .i64 t.pc, .int .i64 t.rc, .int .i64 t.sq, .int .i64 t.wo, .int .i64 t.lk, .int .i64 t.cu, .int .i64 t.pv, .int .i64 t.nt, .int .i64 t.mx, .int .i64 t.ps, .int .i64 t.rn, .slice ao n cap]] V fun e w' => e = .returned (.bool false) ∧ SE w p gt gu gx gn gv gy ga gb v3 t T G ao ao' ao3 n cap cap' cap3 l rk rv (len : Int) a5 len' cu5 zs' st' w' from (asksO V t (.slice ao n cap) ⟨ao, n, cap, rfl⟩).mono fun e w' ⟨he, hb⟩ => ⟨by rw [he, show decide (1 ≤ t.pc ∧ t.pc ≤ 16) = false from decide_eq_false (by omega)], h.fresh hb⟩))
    have h1 : decide (1 ≤ t.pc) = false := by simpa using hp
    clear hp
    have C1 := Lib.hid (HC1.out _ HDR.out)
    go_wp2
    refine wp_region_noPanic ?_
    refine wp_region_held_drew (S := fun w' => w'.cell? ⟨gt, 0, none⟩ = some (.int .i64 t.ti) ∧ w'.cell? ⟨gt, 1, none⟩ = some (.int .i64 t.pc) ∧ w'.cell? ⟨gt, 2, none⟩ = some (.int .i64 t.rc) ∧ w'.cell? ⟨gt, 3, none⟩ = some (.int .i64 t.sq) ∧ w'.cell? ⟨gt, 4, none⟩ = some (.int .i64 t.wo) ∧ w'.cell? ⟨gt, 5, none⟩ = some (.int .i64 t.lk) ∧ w'.cell? ⟨gt, 6, none⟩ = some (.int .i64 t.cu) ∧ w'.cell? ⟨gt, 7, none⟩ = some (.int .i64 t.pv) ∧ w'.cell? ⟨gt, 8, none⟩ = some (.int .i64 t.nt) ∧ w'.cell? ⟨gt, 9, none⟩ = some (.int .i64 t.mx) ∧ w'.cell? ⟨gt, 10, none⟩ = some (.int .i64 t.ps) ∧ w'.cell? ⟨gt, 11, none⟩ = some (.int .i64 t.rn) ∧ w'.cell? ⟨gt, 12, none⟩ = some (.slice ao n cap) ∧ w'.cell? ⟨gu, 0, none⟩ = some (.int .i64 T.ti) ∧ w'.cell? ⟨gu, 1, none⟩ = some (.int .i64 T.pc) ∧ w'.cell? ⟨gu, 2, none⟩ = some (.int .i64 T.rc) ∧ w'.cell? ⟨gu, 3, none⟩ = some (.int .i64 T.sq) ∧ w'.cell? ⟨gu, 4, none⟩ = some (.int .i64 T.wo) ∧ w'.cell? ⟨gu, 5, none⟩ = some (.int .i64 T.lk) ∧ w'.cell? ⟨gu, 6, none⟩ = some (.int .i64 T.cu) ∧ w'.cell? ⟨gu, 7, none⟩ = some (.int .i64 T.pv) ∧ w'.cell? ⟨gu, 8, none⟩ = some (.int .i64 T.nt) ∧ w'.cell? ⟨gu, 9, none⟩ = some (.int .i64 T.mx) ∧ w'.cell? ⟨gu, 10, none⟩ = some (.int .i64 T.ps) ∧ w'.cell? ⟨gu, 11, none⟩ = some (.int .i64 T.rn) ∧ w'.cell? ⟨gu, 12, none⟩ = some (.slice ao' n cap') ∧ w'.cell? ⟨gv, 0, none⟩ = some (.int .i64 T.ti) ∧ w'.cell? ⟨gv, 1, none⟩ = some (.int .i64 T.pc) ∧ w'.cell? ⟨gv, 2, none⟩ = some (.int .i64 T.rc) ∧ w'.cell? ⟨gv, 3, none⟩ = some (.int .i64 T.sq) ∧ w'.cell? ⟨gv, 4, none⟩ = some (.int .i64 T.wo) ∧ w'.cell? ⟨gv, 5, none⟩ = some (.int .i64 T.lk) ∧ w'.cell? ⟨gv, 6, none⟩ = some (.int .i64 T.cu) ∧ w'.cell? ⟨gv, 7, none⟩ = some (.int .i64 T.pv) ∧ w'.cell? ⟨gv, 8, none⟩ = some (.int .i64 T.nt) ∧ w'.cell? ⟨gv, 9, none⟩ = some (.int .i64 T.mx) ∧ w'.cell? ⟨gv, 10, none⟩ = some (.int .i64 T.ps) ∧ w'.cell? ⟨gv, 11, none⟩ = some (.int .i64 T.rn) ∧ w'.cell? ⟨gv, 12, none⟩ = some (.slice ao n cap) ∧ w'.cell? ⟨ga, 0, none⟩ = some (.int .i64 G.ti) ∧ w'.cell? ⟨ga, 1, none⟩ = some (.int .i64 G.pc) ∧ w'.cell? ⟨ga, 2, none⟩ = some (.int .i64 G.rc) ∧ w'.cell? ⟨ga, 3, none⟩ = some (.int .i64 G.sq) ∧ w'.cell? ⟨ga, 4, none⟩ = some (.int .i64 G.wo) ∧ w'.cell? ⟨ga, 5, none⟩ = some (.int .i64 G.lk) ∧ w'.cell? ⟨ga, 6, none⟩ = some (.int .i64 G.cu) ∧ w'.cell? ⟨ga, 7, none⟩ = some (.int .i64 G.pv) ∧ w'.cell? ⟨ga, 8, none⟩ = some (.int .i64 G.nt) ∧ w'.cell? ⟨ga, 9, none⟩ = some (.int .i64 G.mx) ∧ w'.cell? ⟨ga, 10, none⟩ = some (.int .i64 G.ps) ∧ w'.cell? ⟨ga, 11, none⟩ = some (.int .i64 G.rn) ∧ w'.cell? ⟨ga, 12, none⟩ = some (.slice ao3 n cap3) ∧ w'.cell? ⟨gb, 0, none⟩ = some (.int .i64 G.ti) ∧ w'.cell? ⟨gb, 1, none⟩ = some (.int .i64 G.pc) ∧ w'.cell? ⟨gb, 2, none⟩ = some (.int .i64 G.rc) ∧ w'.cell? ⟨gb, 3, none⟩ = some (.int .i64 G.sq) ∧ w'.cell? ⟨gb, 4, none⟩ = some (.int .i64 G.wo) ∧ w'.cell? ⟨gb, 5, none⟩ = some (.int .i64 G.lk) ∧ w'.cell? ⟨gb, 6, none⟩ = some (.int .i64 G.cu) ∧ w'.cell? ⟨gb, 7, none⟩ = some (.int .i64 G.pv) ∧ w'.cell? ⟨gb, 8, none⟩ = some (.int .i64 G.nt) ∧ w'.cell? ⟨gb, 9, none⟩ = some (.int .i64 G.mx) ∧ w'.cell? ⟨gb, 10, none⟩ = some (.int .i64 G.ps) ∧ w'.cell? ⟨gb, 11, none⟩ = some (.int .i64 G.rn) ∧ w'.cell? ⟨gb, 12, none⟩ = some (.slice ao n cap) ∧ w'.cell? ⟨gx, 0, none⟩ = some (.int .u8 rk) ∧ w'.cell? ⟨gx, 1, none⟩ = some (.int .i32 rv) ∧ w'.cell? ⟨gy, 0, none⟩ = some (.int .u8 rk) ∧ w'.cell? ⟨gy, 1, none⟩ = some (.int .i32 rv) ∧ w'.cell? ⟨gn, 1, none⟩ = some (.slice a5 len' cu5) ∧ w'.cell? ⟨gn, 2, none⟩ = some (.int .i64 st')) (by kernel_rfl) i1 (fun hHeld => ?_)
    refine wpAnyH_take (i := 0) (v := ?_) rfl (by kernel_rfl) (by kernel_rfl) (by kernel_rfl) (fun _ _ _ h => h) (Or.inl ⟨by rfl, ?_⟩) (by assumption) ?_
    rotate_left
    · intro w hSw
      (try dsimp only at hSw)
      go_simp
      try with_reducible rfl
    try simp only [List.getElem_toArray, List.getElem_cons_zero, Act.put, List.setIfInBounds_toArray, List.set_cons_zero, List.set_cons_succ]
    refine wpAnyH_take (i := 1) (v := ?_) rfl (by kernel_rfl) (by kernel_rfl) (by kernel_rfl) (fun _ _ _ h => h) (Or.inl ⟨by rfl, ?_⟩) (by assumption) ?_
    rotate_left
    · intro w hSw
      (try dsimp only at hSw)
      go_simp
      try with_reducible rfl
    try simp only [List.getElem_toArray, List.getElem_cons_succ, List.getElem_cons_zero, Act.put, List.setIfInBounds_toArray, List.set_cons_zero, List.set_cons_succ]
    refine wpAnyH_ready (rs := [2]) (by kernel_rfl) (by simp) ?_
    refine AllReadyH.cons rfl (fun K hK => ?_) AllReadyH.nil
    go_simp
    with_reducible refine C1.out.mono ?_
    rintro e V1 ⟨rfl, s1⟩
    have i2 := s1.cells
    have C2 := Lib.hid (HC2.out _ s1)
    clear s1 hHeld
    try go_wp2_with fail
    refine hK.out _ _ i2 (fun hHeld => ?_)
    clear hK K
    try simp only [List.getElem_toArray, List.getElem_cons_succ, List.getElem_cons_zero, Act.put, List.setIfInBounds_toArray, List.set_cons_zero, List.set_cons_succ]
    refine wpAnyH_take (i := 3) (v := ?_) rfl (by kernel_rfl) (by kernel_rfl) (by kernel_rfl) (fun _ _ _ h => h) (Or.inl ⟨by rfl, ?_⟩) (by assumption) ?_
    rotate_left
    · intro w hSw
      (try dsimp only at hSw)
      go_simp
      try with_reducible rfl
    try simp only [List.getElem_toArray, List.getElem_cons_succ, List.getElem_cons_zero, Act.put, List.setIfInBounds_toArray, List.set_cons_zero, List.set_cons_succ]
    refine wpAnyH_take (i := 4) (v := ?_) rfl (by kernel_rfl) (by kernel_rfl) (by kernel_rfl) (fun _ _ _ h => h) (Or.inl ⟨by rfl, ?_⟩) (by assumption) ?_
    rotate_left
    · intro w hSw
      (try dsimp only at hSw)
      go_simp
      try with_reducible rfl
    try simp only [List.getElem_toArray, List.getElem_cons_succ, List.getElem_cons_zero, Act.put, List.setIfInBounds_toArray, List.set_cons_zero, List.set_cons_succ]
    refine wpAnyH_take (i := 5) (v := ?_) rfl (by kernel_rfl) (by kernel_rfl) (by kernel_rfl) (fun _ _ _ h => h) (Or.inl ⟨by rfl, ?_⟩) (by assumption) ?_
    rotate_left
    · intro w hSw
      (try dsimp only at hSw)
      go_simp
      try with_reducible rfl
    try simp only [List.getElem_toArray, List.getElem_cons_succ, List.getElem_cons_zero, Act.put, List.setIfInBounds_toArray, List.set_cons_zero, List.set_cons_succ]
    refine wpAnyH_take (i := 6) (v := ?_) rfl (by kernel_rfl) (by kernel_rfl) (by kernel_rfl) (fun _ _ _ h => h) (Or.inl ⟨by rfl, ?_⟩) (by assumption) ?_
    rotate_left
    · intro w hSw
      (try dsimp only at hSw)
      go_simp
      try with_reducible rfl
    try simp only [List.getElem_toArray, List.getElem_cons_succ, List.getElem_cons_zero, Act.put, List.setIfInBounds_toArray, List.set_cons_zero, List.set_cons_succ]
    refine wpAnyH_take (i := 7) (v := ?_) rfl (by kernel_rfl) (by kernel_rfl) (by kernel_rfl) (fun _ _ _ h => h) (Or.inl ⟨by rfl, ?_⟩) (by assumption) ?_
    rotate_left
    · intro w hSw
      (try dsimp only at hSw)
      go_simp
      try with_reducible rfl
    try simp only [List.getElem_toArray, List.getElem_cons_succ, List.getElem_cons_zero, Act.put, List.setIfInBounds_toArray, List.set_cons_zero, List.set_cons_succ]
    refine wpAnyH_take (i := 8) (v := ?_) rfl (by kernel_rfl) (by kernel_rfl) (by kernel_rfl) (fun _ _ _ h => h) (Or.inl ⟨by rfl, ?_⟩) (by assumption) ?_
    rotate_left
    · intro w hSw
      (try dsimp only at hSw)
      go_simp
      try with_reducible rfl
    try simp only [List.getElem_toArray, List.getElem_cons_succ, List.getElem_cons_zero, Act.put, List.setIfInBounds_toArray, List.set_cons_zero, List.set_cons_succ]
    refine wpAnyH_take (i := 9) (v := ?_) rfl (by kernel_rfl) (by kernel_rfl) (by kernel_rfl) (fun _ _ _ h => h) (Or.inl ⟨by rfl, ?_⟩) (by assumption) ?_
    rotate_left
    · intro w hSw
      (try dsimp only at hSw)
      go_simp
      try with_reducible rfl
    try simp only [List.getElem_toArray, List.getElem_cons_succ, List.getElem_cons_zero, Act.put, List.setIfInBounds_toArray, List.set_cons_zero, List.set_cons_succ]
    refine wpAnyH_take (i := 10) (v := ?_) rfl (by kernel_rfl) (by kernel_rfl) (by kernel_rfl) (fun _ _ _ h => h) (Or.inl ⟨by rfl, ?_⟩) (by assumption) ?_
    rotate_left
    · intro w hSw
      (try dsimp only at hSw)
      go_simp
      try with_reducible rfl
    try simp only [List.getElem_toArray, List.getElem_cons_succ, List.getElem_cons_zero, Act.put, List.setIfInBounds_toArray, List.set_cons_zero, List.set_cons_succ]
    refine wpAnyH_take (i := 11) (v := ?_) rfl (by kernel_rfl) (by kernel_rfl) (by kernel_rfl) (fun _ _ _ h => h) (Or.inl ⟨by rfl, ?_⟩) (by assumption) ?_
    rotate_left
    · intro w hSw
      (try dsimp only at hSw)
      go_simp
      try with_reducible rfl
    try simp only [List.getElem_toArray, List.getElem_cons_succ, List.getElem_cons_zero, Act.put, List.setIfInBounds_toArray, List.set_cons_zero, List.set_cons_succ]
    refine wpAnyH_take (i := 12) (v := ?_) rfl (by kernel_rfl) (by kernel_rfl) (by kernel_rfl) (fun _ _ _ h => h) (Or.inl ⟨by rfl, ?_⟩) (by assumption) ?_
    rotate_left
    · intro w hSw
      (try dsimp only at hSw)
      go_simp
      try with_reducible rfl
    try simp only [List.getElem_toArray, List.getElem_cons_succ, List.getElem_cons_zero, Act.put, List.setIfInBounds_toArray, List.set_cons_zero, List.set_cons_succ]
    refine wpAnyH_take (i := 13) (v := ?_) rfl (by kernel_rfl) (by kernel_rfl) (by kernel_rfl) (fun _ _ _ h => h) (Or.inl ⟨by rfl, ?_⟩) (by assumption) ?_
    rotate_left
    · intro w hSw
      (try dsimp only at hSw)
      go_simp
      try with_reducible rfl
    try simp only [List.getElem_toArray, List.getElem_cons_succ, List.getElem_cons_zero, Act.put, List.setIfInBounds_toArray, List.set_cons_zero, List.set_cons_succ]
    refine wpAnyH_take (i := 14) (v := ?_) rfl (by kernel_rfl) (by kernel_rfl) (by kernel_rfl) (fun _ _ _ h => h) (Or.inl ⟨by rfl, ?_⟩) (by assumption) ?_
    rotate_left
    · intro w hSw
      (try dsimp only at hSw)
      go_simp
      try with_reducible rfl
    try simp only [List.getElem_toArray, List.getElem_cons_succ, List.getElem_cons_zero, Act.put, List.setIfInBounds_toArray, List.set_cons_zero, List.set_cons_succ]
    refine wpAnyH_take (i := 16) (v := ?_) rfl (by kernel_rfl) (by kernel_rfl) (by kernel_rfl) (fun _ _ _ h => h) (Or.inl ⟨by rfl, ?_⟩) (by assumption) ?_
    rotate_left
    · intro w hSw
      (try dsimp only at hSw)
      go_simp
      try with_reducible rfl
    try simp only [List.getElem_toArray, List.getElem_cons_succ, List.getElem_cons_zero, Act.put, List.setIfInBounds_toArray, List.set_cons_zero, List.set_cons_succ]
    refine wpAnyH_take (i := 17) (v := ?_) rfl (by kernel_rfl) (by kernel_rfl) (by kernel_rfl) (fun _ _ _ h => h) (Or.inl ⟨by rfl, ?_⟩) (by assumption) ?_
    rotate_left
    · intro w hSw
      (try dsimp only at hSw)
      go_simp
      try with_reducible rfl
    try simp only [List.getElem_toArray, List.getElem_cons_succ, List.getElem_cons_zero, Act.put, List.setIfInBounds_toArray, List.set_cons_zero, List.set_cons_succ]
    refine wpAnyH_ready (rs := [15]) (by kernel_rfl) (by simp) ?_
    refine AllReadyH.cons rfl (fun K hK => ?_) AllReadyH.nil
    go_simp
    with_reducible refine C2.out.mono ?_
    rintro e V2 ⟨rfl, r2, s2⟩
    have i3 := s2.cells
    have C3 := Lib.hid (HC3.out _ _ s2 r2)
    clear s2 r2 hHeld
    try go_wp2_with fail
    refine hK.out _ _ i3 (fun hHeld => ?_)
    clear hK K
    try simp only [List.getElem_toArray, List.getElem_cons_succ, List.getElem_cons_zero, Act.put, List.setIfInBounds_toArray, List.set_cons_zero, List.set_cons_succ]
    refine wpAnyH_ready (rs := [18]) (by kernel_rfl) (by simp) ?_
    refine AllReadyH.cons rfl (fun K hK => ?_) AllReadyH.nil
    go_simp
    with_reducible refine C3.out.mono ?_
    rintro e V3 ⟨rfl, s3⟩
    have i4 := s3.cells
    have C4 := Lib.hid (HC4.out _ s3)
    have C5 := Lib.hid (HC5.out _ s3)
    clear s3 hHeld
    try go_wp2_with fail
    refine hK.out _ _ i4 (fun hHeld => ?_)
    clear hK K
    try simp only [List.getElem_toArray, List.getElem_cons_succ, List.getElem_cons_zero, Act.put, List.setIfInBounds_toArray, List.set_cons_zero, List.set_cons_succ]
    refine wpAnyH_take (i := 19) (v := ?_) rfl (by kernel_rfl) (by kernel_rfl) (by kernel_rfl) (fun _ _ _ h => h) (Or.inl ⟨by rfl, ?_⟩) (by assumption) ?_
    rotate_left
    · intro w hSw
      (try dsimp only at hSw)
      go_simp
      try with_reducible rfl
    try simp only [List.getElem_toArray, List.getElem_cons_succ, List.getElem_cons_zero, Act.put, List.setIfInBounds_toArray, List.set_cons_zero, List.set_cons_succ]
    refine wpAnyH_take (i := 20) (v := ?_) rfl (by kernel_rfl) (by kernel_rfl) (by kernel_rfl) (fun _ _ _ h => h) (Or.inl ⟨by rfl, ?_⟩) (by assumption) ?_
    rotate_left
    · intro w hSw
      (try dsimp only at hSw)
      go_simp
      try with_reducible rfl
    try simp only [List.getElem_toArray, List.getElem_cons_succ, List.getElem_cons_zero, Act.put, List.setIfInBounds_toArray, List.set_cons_zero, List.set_cons_succ]
    refine wpAnyH_take (i := 21) (v := ?_) rfl (by kernel_rfl) (by kernel_rfl) (by kernel_rfl) (fun _ _ _ h => h) (Or.inl ⟨by rfl, ?_⟩) (by assumption) ?_
    rotate_left
    · intro w hSw
      (try dsimp only at hSw)
      go_simp
      try with_reducible rfl
    try simp only [List.getElem_toArray, List.getElem_cons_succ, List.getElem_cons_zero, Act.put, List.setIfInBounds_toArray, List.set_cons_zero, List.set_cons_succ]
    refine wpAnyH_take (i := 23) (v := ?_) rfl (by kernel_rfl) (by kernel_rfl) (by kernel_rfl) (fun _ _ _ h => h) (Or.inl ⟨by rfl, ?_⟩) (by assumption) ?_
    rotate_left
    · intro w hSw
      (try dsimp only at hSw)
      go_simp
      try with_reducible rfl
    try simp only [List.getElem_toArray, List.getElem_cons_succ, List.getElem_cons_zero, Act.put, List.setIfInBounds_toArray, List.set_cons_zero, List.set_cons_succ]
    refine wpAnyH_take (i := 24) (v := ?_) rfl (by kernel_rfl) (by kernel_rfl) (by kernel_rfl) (fun _ _ _ h => h) (Or.inl ⟨by rfl, ?_⟩) (by assumption) ?_
    rotate_left
    · intro w hSw
      (try dsimp only at hSw)
      go_simp
      try with_reducible rfl
    try simp only [List.getElem_toArray, List.getElem_cons_succ, List.getElem_cons_zero, Act.put, List.setIfInBounds_toArray, List.set_cons_zero, List.set_cons_succ]
    refine wpAnyH_ready (rs := [22]) (by kernel_rfl) (by simp) ?_
    refine AllReadyH.cons rfl (fun K hK => ?_) AllReadyH.nil
    go_simp
    with_reducible refine C4.out.mono ?_
    rintro e w' ⟨rfl, rfl⟩
    clear hHeld
    try go_wp2_with fail
    refine hK.out _ _ i4 (fun hHeld => ?_)
    clear hK K
    try simp only [List.getElem_toArray, List.getElem_cons_succ, List.getElem_cons_zero, Act.put, List.setIfInBounds_toArray, List.set_cons_zero, List.set_cons_succ]
    refine wpAnyH_take (i := 25) (v := ?_) rfl (by kernel_rfl) (by kernel_rfl) (by kernel_rfl) (fun _ _ _ h => h) (Or.inl ⟨by rfl, ?_⟩) (by assumption) ?_
    rotate_left
    · intro w hSw
      (try dsimp only at hSw)
      go_simp
      try with_reducible rfl
    try simp only [List.getElem_toArray, List.getElem_cons_succ, List.getElem_cons_zero, Act.put, List.setIfInBounds_toArray, List.set_cons_zero, List.set_cons_succ]
    refine wpAnyH_take (i := 26) (v := ?_) rfl (by kernel_rfl) (by kernel_rfl) (by kernel_rfl) (fun _ _ _ h => h) (Or.inl ⟨by rfl, ?_⟩) (by assumption) ?_
    rotate_left
    · intro w hSw
      (try dsimp only at hSw)
      go_simp
      try with_reducible rfl
    try simp only [List.getElem_toArray, List.getElem_cons_succ, List.getElem_cons_zero, Act.put, List.setIfInBounds_toArray, List.set_cons_zero, List.set_cons_succ]
    refine wpAnyH_take (i := 27) (v := ?_) rfl (by kernel_rfl) (by kernel_rfl) (by kernel_rfl) (fun _ _ _ h => h) (Or.inl ⟨by rfl, ?_⟩) (by assumption) ?_
    rotate_left
    · intro w hSw
      (try dsimp only at hSw)
      go_simp
      try with_reducible rfl
    try simp only [List.getElem_toArray, List.getElem_cons_succ, List.getElem_cons_zero, Act.put, List.setIfInBounds_toArray, List.set_cons_zero, List.set_cons_succ]
    refine wpAnyH_take (i := 28) (v := ?_) rfl (by kernel_rfl) (by kernel_rfl) (by kernel_rfl) (fun _ _ _ h => h) (Or.inl ⟨by rfl, ?_⟩) (by assumption) ?_
    rotate_left
    · intro w hSw
      (try dsimp only at hSw)
      go_simp
      try with_reducible rfl
    try simp only [List.getElem_toArray, List.getElem_cons_succ, List.getElem_cons_zero, Act.put, List.setIfInBounds_toArray, List.set_cons_zero, List.set_cons_succ]
    refine wpAnyH_take (i := 29) (v := ?_) rfl (by kernel_rfl) (by kernel_rfl) (by kernel_rfl) (fun _ _ _ h => h) (Or.inl ⟨by rfl, ?_⟩) (by assumption) ?_
    rotate_left
    · intro w hSw
      (try dsimp only at hSw)
      go_simp
      try with_reducible rfl
    try simp only [List.getElem_toArray, List.getElem_cons_succ, List.getElem_cons_zero, Act.put, List.setIfInBounds_toArray, List.set_cons_zero, List.set_cons_succ]
    refine wpAnyH_ready (rs := [30]) (by kernel_rfl) (by simp) ?_
    refine AllReadyH.cons rfl (fun K hK => ?_) AllReadyH.nil
    go_simp
    with_reducible refine C5.out.mono ?_
    rintro e V5 ⟨rfl, s5⟩
    have i5 := s5.cells
    have C6 := Lib.hid (HC6.out _ s5)
    clear s5 hHeld
    try go_wp2_with fail
    refine hK.out _ _ i5 (fun hHeld => ?_)
    clear hK K
    try simp only [List.getElem_toArray, List.getElem_cons_succ, List.getElem_cons_zero, Act.put, List.setIfInBounds_toArray, List.set_cons_zero, List.set_cons_succ]
    refine wpAnyH_take (i := 31) (v := ?_) rfl (by kernel_rfl) (by kernel_rfl) (by kernel_rfl) (fun _ _ _ h => h) (Or.inl ⟨by rfl, ?_⟩) (by assumption) ?_
    rotate_left
    · intro w hSw
      (try dsimp only at hSw)
      go_simp
      try with_reducible rfl
    try simp only [List.getElem_toArray, List.getElem_cons_succ, List.getElem_cons_zero, Act.put, List.setIfInBounds_toArray, List.set_cons_zero, List.set_cons_succ]
    refine wpAnyH_take (i := 32) (v := ?_) rfl (by kernel_rfl) (by kernel_rfl) (by kernel_rfl) (fun _ _ _ h => h) (Or.inl ⟨by rfl, ?_⟩) (by assumption) ?_
    rotate_left
    · intro w hSw
      (try dsimp only at hSw)
      go_simp
      try with_reducible rfl
    try simp only [List.getElem_toArray, List.getElem_cons_succ, List.getElem_cons_zero, Act.put, List.setIfInBounds_toArray, List.set_cons_zero, List.set_cons_succ]
    refine wpAnyH_take (i := 33) (v := ?_) rfl (by kernel_rfl) (by kernel_rfl) (by kernel_rfl) (fun _ _ _ h => h) (Or.inl ⟨by rfl, ?_⟩) (by assumption) ?_
    rotate_left
    · intro w hSw
      (try dsimp only at hSw)
      go_simp
      try with_reducible rfl
    try simp only [List.getElem_toArray, List.getElem_cons_succ, List.getElem_cons_zero, Act.put, List.setIfInBounds_toArray, List.set_cons_zero, List.set_cons_succ]
    refine wpAnyH_take (i := 34) (v := ?_) rfl (by kernel_rfl) (by kernel_rfl) (by kernel_rfl) (fun _ _ _ h => h) (Or.inl ⟨by rfl, ?_⟩) (by assumption) ?_
    rotate_left
    · intro w hSw
      (try dsimp only at hSw)
      go_simp
      try with_reducible rfl
    try simp only [List.getElem_toArray, List.getElem_cons_succ, List.getElem_cons_zero, Act.put, List.setIfInBounds_toArray, List.set_cons_zero, List.set_cons_succ]
    refine wpAnyH_take (i := 35) (v := ?_) rfl (by kernel_rfl) (by kernel_rfl) (by kernel_rfl) (fun _ _ _ h => h) (Or.inl ⟨by rfl, ?_⟩) (by assumption) ?_
    rotate_left
    · intro w hSw
      (try dsimp only at hSw)
      go_simp
      try with_reducible rfl
    try simp only [List.getElem_toArray, List.getElem_cons_succ, List.getElem_cons_zero, Act.put, List.setIfInBounds_toArray, List.set_cons_zero, List.set_cons_succ]
    refine wpAnyH_take (i := 36) (v := ?_) rfl (by kernel_rfl) (by kernel_rfl) (by kernel_rfl) (fun _ _ _ h => h) (Or.inl ⟨by rfl, ?_⟩) (by assumption) ?_
    rotate_left
    · intro w hSw
      (try dsimp only at hSw)
      go_simp
      try with_reducible rfl
    try simp only [List.getElem_toArray, List.getElem_cons_succ, List.getElem_cons_zero, Act.put, List.setIfInBounds_toArray, List.set_cons_zero, List.set_cons_succ]
    refine wpAnyH_take (i := 37) (v := ?_) rfl (by kernel_rfl) (by kernel_rfl) (by kernel_rfl) (fun _ _ _ h => h) (Or.inl ⟨by rfl, ?_⟩) (by assumption) ?_
    rotate_left
    · intro w hSw
      (try dsimp only at hSw)
      go_simp
      try with_reducible rfl
    try simp only [List.getElem_toArray, List.getElem_cons_succ, List.getElem_cons_zero, Act.put, List.setIfInBounds_toArray, List.set_cons_zero, List.set_cons_succ]
    refine wpAnyH_take (i := 38) (v := ?_) rfl (by kernel_rfl) (by kernel_rfl) (by kernel_rfl) (fun _ _ _ h => h) (Or.inl ⟨by rfl, ?_⟩) (by assumption) ?_
    rotate_left
    · intro w hSw
      (try dsimp only at hSw)
      go_simp
      try with_reducible rfl
    try simp only [List.getElem_toArray, List.getElem_cons_succ, List.getElem_cons_zero, Act.put, List.setIfInBounds_toArray, List.set_cons_zero, List.set_cons_succ]
    refine wpAnyH_take (i := 40) (v := ?_) rfl (by kernel_rfl) (by kernel_rfl) (by kernel_rfl) (fun _ _ _ h => h) (Or.inl ⟨by rfl, ?_⟩) (by assumption) ?_
    rotate_left
    · intro w hSw
      (try dsimp only at hSw)
      go_simp
      try with_reducible rfl
    try simp only [List.getElem_toArray, List.getElem_cons_succ, List.getElem_cons_zero, Act.put, List.setIfInBounds_toArray, List.set_cons_zero, List.set_cons_succ]
    refine wpAnyH_take (i := 41) (v := ?_) rfl (by kernel_rfl) (by kernel_rfl) (by kernel_rfl) (fun _ _ _ h => h) (Or.inl ⟨by rfl, ?_⟩) (by assumption) ?_
    rotate_left
    · intro w hSw
      (try dsimp only at hSw)
      go_simp
      try with_reducible rfl
    try simp only [List.getElem_toArray, List.getElem_cons_succ, List.getElem_cons_zero, Act.put, List.setIfInBounds_toArray, List.set_cons_zero, List.set_cons_succ]
    refine wpAnyH_take (i := 42) (v := ?_) rfl (by kernel_rfl) (by kernel_rfl) (by kernel_rfl) (fun _ _ _ h => h) (Or.inl ⟨by rfl, ?_⟩) (by assumption) ?_
    rotate_left
    · intro w hSw
      (try dsimp only at hSw)
      go_simp
      try with_reducible rfl
    try simp only [List.getElem_toArray, List.getElem_cons_succ, List.getElem_cons_zero, Act.put, List.setIfInBounds_toArray, List.set_cons_zero, List.set_cons_succ]
    refine wpAnyH_ready (rs := [39]) (by kernel_rfl) (by simp) ?_
    refine AllReadyH.cons rfl (fun K hK => ?_) AllReadyH.nil
    go_simp
    with_reducible refine C6.out.mono ?_
    rintro e V6 ⟨rfl, s6⟩
    have HF := Lib.hid s6
    have i6 := HF.out.cells
    clear s6 hHeld
    try go_wp2_with fail
    refine hK.out _ _ i6 (fun hHeld => ?_)
    clear hK K
    try simp only [List.getElem_toArray, List.getElem_cons_succ, List.getElem_cons_zero, Act.put, List.setIfInBounds_toArray, List.set_cons_zero, List.set_cons_succ]
    refine wpAnyH_take (i := 43) (v := ?_) rfl (by kernel_rfl) (by kernel_rfl) (by kernel_rfl) (fun _ _ _ h => h) (Or.inl ⟨by rfl, ?_⟩) (by assumption) ?_
    rotate_left
    · intro w hSw
      (try dsimp only at hSw)
      go_simp
      try with_reducible rfl
    try simp only [List.getElem_toArray, List.getElem_cons_succ, List.getElem_cons_zero, Act.put, List.setIfInBounds_toArray, List.set_cons_zero, List.set_cons_succ]
    refine wpAnyH_take (i := 44) (v := undef) rfl (by kernel_rfl) (by kernel_rfl) (by kernel_rfl) (fun _ _ _ h => h) (Or.inr ⟨by rfl, rfl⟩) (by assumption) ?_
    try simp only [List.getElem_toArray, List.getElem_cons_succ, List.getElem_cons_zero, Act.put, List.setIfInBounds_toArray, List.set_cons_zero, List.set_cons_succ]
    refine wpAnyH_take (i := 45) (v := undef) rfl (by kernel_rfl) (by kernel_rfl) (by kernel_rfl) (fun _ _ _ h => h) (Or.inr ⟨by rfl, rfl⟩) (by assumption) ?_
    try simp only [List.getElem_toArray, List.getElem_cons_succ, List.getElem_cons_zero, Act.put, List.setIfInBounds_toArray, List.set_cons_zero, List.set_cons_succ]
    refine wpAnyH_take (i := 46) (v := undef) rfl (by kernel_rfl) (by kernel_rfl) (by kernel_rfl) (fun _ _ _ h => h) (Or.inr ⟨by rfl, rfl⟩) (by assumption) ?_
    try simp only [List.getElem_toArray, List.getElem_cons_succ, List.getElem_cons_zero, Act.put, List.setIfInBounds_toArray, List.set_cons_zero, List.set_cons_succ]
    refine wpAnyH_take (i := 47) (v := ?_) rfl (by kernel_rfl) (by kernel_rfl) (by kernel_rfl) (fun _ _ _ h => h) (Or.inl ⟨by rfl, ?_⟩) (by assumption) ?_
    rotate_left
    · intro w hSw
      (try dsimp only at hSw)
      go_simp
      try with_reducible rfl
    try simp only [List.getElem_toArray, List.getElem_cons_succ, List.getElem_cons_zero, Act.put, List.setIfInBounds_toArray, List.set_cons_zero, List.set_cons_succ]
    refine wpAnyH_take (i := 48) (v := ?_) rfl (by kernel_rfl) (by kernel_rfl) (by kernel_rfl) (fun _ _ _ h => h) (Or.inl ⟨by rfl, ?_⟩) (by assumption) ?_
    rotate_left
    · intro w hSw
      (try dsimp only at hSw)
      go_simp
      try with_reducible rfl
    try simp only [List.getElem_toArray, List.getElem_cons_succ, List.getElem_cons_zero, Act.put, List.setIfInBounds_toArray, List.set_cons_zero, List.set_cons_succ]
    refine wpAnyH_take (i := 49) (v := ?_) rfl (by kernel_rfl) (by kernel_rfl) (by kernel_rfl) (fun _ _ _ h => h) (Or.inl ⟨by rfl, ?_⟩) (by assumption) ?_
    rotate_left
    · intro w hSw
      (try dsimp only at hSw)
      go_simp
      try with_reducible rfl
    try simp only [List.getElem_toArray, List.getElem_cons_succ, List.getElem_cons_zero, Act.put, List.setIfInBounds_toArray, List.set_cons_zero, List.set_cons_succ]
    refine wpAnyH_take (i := 50) (v := ?_) rfl (by kernel_rfl) (by kernel_rfl) (by kernel_rfl) (fun _ _ _ h => h) (Or.inl ⟨by rfl, ?_⟩) (by assumption) ?_
    rotate_left
    · intro w hSw
      (try dsimp only at hSw)
      go_simp
      try with_reducible rfl
    try simp only [List.getElem_toArray, List.getElem_cons_succ, List.getElem_cons_zero, Act.put, List.setIfInBounds_toArray, List.set_cons_zero, List.set_cons_succ]
    refine wpAnyH_done (by kernel_rfl) ?_ _
    refine NoPanic.normal ?_
    go_wp2
    go_ret
    exact ⟨by simp, HF.out.lo⟩
  · have HC6 := Lib.hid (fun (V : World) (h : SE w p gt gu gx gn gv gy ga gb v3 t T G ao ao' ao3 n cap cap' cap3 l rk rv (len : Int) a5 len' cu5 zs' st' V) => (show Calls Try.prog 31 #[.agg #[.int .i64 t.ti, .int .i64 t.pc, .int .i64 t.rc, .int .i64 t.sq, .int .i64 t.wo, .int .i64 t.lk, .int .i64 t.cu, .int .i64 t.pv, .int .i64 t.nt, .int .i64 t.mx, .int .i64 t.ps, .int .i64 t.rn, .slice ao n cap]] V fun e w' => e = .returned (.bool false) ∧ SE w p gt gu gx gn gv gy ga gb v3 t T G ao ao' ao3 n cap cap' cap3 l rk rv (len : Int) a5 len' cu5 zs' st' w' from (asksO V t (.slice ao n cap) ⟨ao, n, cap, rfl⟩).mono fun e w' ⟨he, hb⟩ => ⟨by rw [he, show decide (1 ≤ t.pc ∧ t.pc ≤ 16) = false from decide_eq_false (by omega)], h.fresh hb⟩))
    have h1 : decide (1 ≤ t.pc) = true := by simpa using hp.1
    have h2 : decide (t.pc ≤ 16) = false := by simpa using hp.2
    clear hp
    have C1 := Lib.hid (HC1.out _ HDR.out)
    go_wp2
    go_region_held3 (fun w' => w'.cell? ⟨gt, 0, none⟩ = some (.int .i64 t.ti) ∧ w'.cell? ⟨gt, 1, none⟩ = some (.int .i64 t.pc) ∧ w'.cell? ⟨gt, 2, none⟩ = some (.int .i64 t.rc) ∧ w'.cell? ⟨gt, 3, none⟩ = some (.int .i64 t.sq) ∧ w'.cell? ⟨gt, 4, none⟩ = some (.int .i64 t.wo) ∧ w'.cell? ⟨gt, 5, none⟩ = some (.int .i64 t.lk) ∧ w'.cell? ⟨gt, 6, none⟩ = some (.int .i64 t.cu) ∧ w'.cell? ⟨gt, 7, none⟩ = some (.int .i64 t.pv) ∧ w'.cell? ⟨gt, 8, none⟩ = some (.int .i64 t.nt) ∧ w'.cell? ⟨gt, 9, none⟩ = some (.int .i64 t.mx) ∧ w'.cell? ⟨gt, 10, none⟩ = some (.int .i64 t.ps) ∧ w'.cell? ⟨gt, 11, none⟩ = some (.int .i64 t.rn) ∧ w'.cell? ⟨gt, 12, none⟩ = some (.slice ao n cap) ∧ w'.cell? ⟨gu, 0, none⟩ = some (.int .i64 T.ti) ∧ w'.cell? ⟨gu, 1, none⟩ = some (.int .i64 T.pc) ∧ w'.cell? ⟨gu, 2, none⟩ = some (.int .i64 T.rc) ∧ w'.cell? ⟨gu, 3, none⟩ = some (.int .i64 T.sq) ∧ w'.cell? ⟨gu, 4, none⟩ = some (.int .i64 T.wo) ∧ w'.cell? ⟨gu, 5, none⟩ = some (.int .i64 T.lk) ∧ w'.cell? ⟨gu, 6, none⟩ = some (.int .i64 T.cu) ∧ w'.cell? ⟨gu, 7, none⟩ = some (.int .i64 T.pv) ∧ w'.cell? ⟨gu, 8, none⟩ = some (.int .i64 T.nt) ∧ w'.cell? ⟨gu, 9, none⟩ = some (.int .i64 T.mx) ∧ w'.cell? ⟨gu, 10, none⟩ = some (.int .i64 T.ps) ∧ w'.cell? ⟨gu, 11, none⟩ = some (.int .i64 T.rn) ∧ w'.cell? ⟨gu, 12, none⟩ = some (.slice ao' n cap') ∧ w'.cell? ⟨gv, 0, none⟩ = some (.int .i64 T.ti) ∧ w'.cell? ⟨gv, 1, none⟩ = some (.int .i64 T.pc) ∧ w'.cell? ⟨gv, 2, none⟩ = some (.int .i64 T.rc) ∧ w'.cell? ⟨gv, 3, none⟩ = some (.int .i64 T.sq) ∧ w'.cell? ⟨gv, 4, none⟩ = some (.int .i64 T.wo) ∧ w'.cell? ⟨gv, 5, none⟩ = some (.int .i64 T.lk) ∧ w'.cell? ⟨gv, 6, none⟩ = some (.int .i64 T.cu) ∧ w'.cell? ⟨gv, 7, none⟩ = some (.int .i64 T.pv) ∧ w'.cell? ⟨gv, 8, none⟩ = some (.int .i64 T.nt) ∧ w'.cell? ⟨gv, 9, none⟩ = some (.int .i64 T.mx) ∧ w'.cell? ⟨gv, 10, none⟩ = some (.int .i64 T.ps) ∧ w'.cell? ⟨gv, 11, none⟩ = some (.int .i64 T.rn) ∧ w'.cell? ⟨gv, 12, none⟩ = some (.slice ao n cap) ∧ w'.cell? ⟨ga, 0, none⟩ = some (.int .i64 G.ti) ∧ w'.cell? ⟨ga, 1, none⟩ = some (.int .i64 G.pc) ∧ w'.cell? ⟨ga, 2, none⟩ = some (.int .i64 G.rc) ∧ w'.cell? ⟨ga, 3, none⟩ = some (.int .i64 G.sq) ∧ w'.cell? ⟨ga, 4, none⟩ = some (.int .i64 G.wo) ∧ w'.cell? ⟨ga, 5, none⟩ = some (.int .i64 G.lk) ∧ w'.cell? ⟨ga, 6, none⟩ = some (.int .i64 G.cu) ∧ w'.cell? ⟨ga, 7, none⟩ = some (.int .i64 G.pv) ∧ w'.cell? ⟨ga, 8, none⟩ = some (.int .i64 G.nt) ∧ w'.cell? ⟨ga, 9, none⟩ = some (.int .i64 G.mx) ∧ w'.cell? ⟨ga, 10, none⟩ = some (.int .i64 G.ps) ∧ w'.cell? ⟨ga, 11, none⟩ = some (.int .i64 G.rn) ∧ w'.cell? ⟨ga, 12, none⟩ = some (.slice ao3 n cap3) ∧ w'.cell? ⟨gb, 0, none⟩ = some (.int .i64 G.ti) ∧ w'.cell? ⟨gb, 1, none⟩ = some (.int .i64 G.pc) ∧ w'.cell? ⟨gb, 2, none⟩ = some (.int .i64 G.rc) ∧ w'.cell? ⟨gb, 3, none⟩ = some (.int .i64 G.sq) ∧ w'.cell? ⟨gb, 4, none⟩ = some (.int .i64 G.wo) ∧ w'.cell? ⟨gb, 5, none⟩ = some (.int .i64 G.lk) ∧ w'.cell? ⟨gb, 6, none⟩ = some (.int .i64 G.cu) ∧ w'.cell? ⟨gb, 7, none⟩ = some (.int .i64 G.pv) ∧ w'.cell? ⟨gb, 8, none⟩ = some (.int .i64 G.nt) ∧ w'.cell? ⟨gb, 9, none⟩ = some (.int .i64 G.mx) ∧ w'.cell? ⟨gb, 10, none⟩ = some (.int .i64 G.ps) ∧ w'.cell? ⟨gb, 11, none⟩ = some (.int .i64 G.rn) ∧ w'.cell? ⟨gb, 12, none⟩ = some (.slice ao n cap) ∧ w'.cell? ⟨gx, 0, none⟩ = some (.int .u8 rk) ∧ w'.cell? ⟨gx, 1, none⟩ = some (.int .i32 rv) ∧ w'.cell? ⟨gy, 0, none⟩ = some (.int .u8 rk) ∧ w'.cell? ⟨gy, 1, none⟩ = some (.int .i32 rv) ∧ w'.cell? ⟨gn, 1, none⟩ = some (.slice a5 len' cu5) ∧ w'.cell? ⟨gn, 2, none⟩ = some (.int .i64 st')) (first | with_reducible exact i0 | with_reducible exact i1 | with_reducible exact i2 | with_reducible exact i3 | with_reducible exact i4 | with_reducible exact i5 | with_reducible exact i6) (first
      | ((with_reducible refine C6.out.mono ?_); rintro e V6 ⟨rfl, s6⟩; have HF := Lib.hid s6; have i6 := HF.out.cells; clear s6)
      | ((with_reducible refine C5.out.mono ?_); rintro e V5 ⟨rfl, s5⟩; have i5 := s5.cells; have C6 := Lib.hid (HC6.out _ s5); clear s5)
      | ((with_reducible refine C4.out.mono ?_); rintro e w' ⟨rfl, rfl⟩)
      | ((with_reducible refine C3.out.mono ?_); rintro e V3 ⟨rfl, s3⟩; have i4 := s3.cells; have C4 := Lib.hid (HC4.out _ s3); have C5 := Lib.hid (HC5.out _ s3); clear s3)
      | ((with_reducible refine C2.out.mono ?_); rintro e V2 ⟨rfl, r2, s2⟩; have i3 := s2.cells; have C3 := Lib.hid (HC3.out _ _ s2 r2); clear s2 r2)
      | ((with_reducible refine C1.out.mono ?_); rintro e V1 ⟨rfl, s1⟩; have i2 := s1.cells; have C2 := Lib.hid (HC2.out _ s1); clear s1))
    all_goals
      go_wp2
      go_ret
      exact ⟨by simp, HF.out.lo⟩
  · have HC6 := Lib.hid (fun (V : World) (h : SE w p gt gu gx gn gv gy ga gb v3 t T G ao ao' ao3 n cap cap' cap3 l rk rv (len : Int) a5 len' cu5 zs' st' V) => (show Calls Try.prog 31 #[.agg #[.int .i64 t.ti, .int .i64 t.pc, .int .i64 t.rc, .int .i64 t.sq, .int .i64 t.wo, .int .i64 t.lk, .int .i64 t.cu, .int .i64 t.pv, .int .i64 t.nt, .int .i64 t.mx, .int .i64 t.ps, .int .i64 t.rn, .slice ao n cap]] V fun e w' => e = .returned (.bool true) ∧ SE w p gt gu gx gn gv gy ga gb v3 t T G ao ao' ao3 n cap cap' cap3 l rk rv (len : Int) a5 len' cu5 zs' st' w' from (asksO V t (.slice ao n cap) ⟨ao, n, cap, rfl⟩).mono fun e w' ⟨he, hb⟩ => ⟨by rw [he, show decide (1 ≤ t.pc ∧ t.pc ≤ 16) = true from decide_eq_true hp], h.fresh hb⟩))
    have h1 : decide (1 ≤ t.pc) = true := by simpa using hp.1
    have h2 : decide (t.pc ≤ 16) = true := by simpa using hp.2
    clear hp
    have C1 := Lib.hid (HC1.out _ HDR.out)
    go_wp2
    go_region_held3 (fun w' => w'.cell? ⟨gt, 0, none⟩ = some (.int .i64 t.ti) ∧ w'.cell? ⟨gt, 1, none⟩ = some (.int .i64 t.pc) ∧ w'.cell? ⟨gt, 2, none⟩ = some (.int .i64 t.rc) ∧ w'.cell? ⟨gt, 3, none⟩ = some (.int .i64 t.sq) ∧ w'.cell? ⟨gt, 4, none⟩ = some (.int .i64 t.wo) ∧ w'.cell? ⟨gt, 5, none⟩ = some (.int .i64 t.lk) ∧ w'.cell? ⟨gt, 6, none⟩ = some (.int .i64 t.cu) ∧ w'.cell? ⟨gt, 7, none⟩ = some (.int .i64 t.pv) ∧ w'.cell? ⟨gt, 8, none⟩ = some (.int .i64 t.nt) ∧ w'.cell? ⟨gt, 9, none⟩ = some (.int .i64 t.mx) ∧ w'.cell? ⟨gt, 10, none⟩ = some (.int .i64 t.ps) ∧ w'.cell? ⟨gt, 11, none⟩ = some (.int .i64 t.rn) ∧ w'.cell? ⟨gt, 12, none⟩ = some (.slice ao n cap) ∧ w'.cell? ⟨gu, 0, none⟩ = some (.int .i64 T.ti) ∧ w'.cell? ⟨gu, 1, none⟩ = some (.int .i64 T.pc) ∧ w'.cell? ⟨gu, 2, none⟩ = some (.int .i64 T.rc) ∧ w'.cell? ⟨gu, 3, none⟩ = some (.int .i64 T.sq) ∧ w'.cell? ⟨gu, 4, none⟩ = some (.int .i64 T.wo) ∧ w'.cell? ⟨gu, 5, none⟩ = some (.int .i64 T.lk) ∧ w'.cell? ⟨gu, 6, none⟩ = some (.int .i64 T.cu) ∧ w'.cell? ⟨gu, 7, none⟩ = some (.int .i64 T.pv) ∧ w'.cell? ⟨gu, 8, none⟩ = some (.int .i64 T.nt) ∧ w'.cell? ⟨gu, 9, none⟩ = some (.int .i64 T.mx) ∧ w'.cell? ⟨gu, 10, none⟩ = some (.int .i64 T.ps) ∧ w'.cell? ⟨gu, 11, none⟩ = some (.int .i64 T.rn) ∧ w'.cell? ⟨gu, 12, none⟩ = some (.slice ao' n cap') ∧ w'.cell? ⟨gv, 0, none⟩ = some (.int .i64 T.ti) ∧ w'.cell? ⟨gv, 1, none⟩ = some (.int .i64 T.pc) ∧ w'.cell? ⟨gv, 2, none⟩ = some (.int .i64 T.rc) ∧ w'.cell? ⟨gv, 3, none⟩ = some (.int .i64 T.sq) ∧ w'.cell? ⟨gv, 4, none⟩ = some (.int .i64 T.wo) ∧ w'.cell? ⟨gv, 5, none⟩ = some (.int .i64 T.lk) ∧ w'.cell? ⟨gv, 6, none⟩ = some (.int .i64 T.cu) ∧ w'.cell? ⟨gv, 7, none⟩ = some (.int .i64 T.pv) ∧ w'.cell? ⟨gv, 8, none⟩ = some (.int .i64 T.nt) ∧ w'.cell? ⟨gv, 9, none⟩ = some (.int .i64 T.mx) ∧ w'.cell? ⟨gv, 10, none⟩ = some (.int .i64 T.ps) ∧ w'.cell? ⟨gv, 11, none⟩ = some (.int .i64 T.rn) ∧ w'.cell? ⟨gv, 12, none⟩ = some (.slice ao n cap) ∧ w'.cell? ⟨ga, 0, none⟩ = some (.int .i64 G.ti) ∧ w'.cell? ⟨ga, 1, none⟩ = some (.int .i64 G.pc) ∧ w'.cell? ⟨ga, 2, none⟩ = some (.int .i64 G.rc) ∧ w'.cell? ⟨ga, 3, none⟩ = some (.int .i64 G.sq) ∧ w'.cell? ⟨ga, 4, none⟩ = some (.int .i64 G.wo) ∧ w'.cell? ⟨ga, 5, none⟩ = some (.int .i64 G.lk) ∧ w'.cell? ⟨ga, 6, none⟩ = some (.int .i64 G.cu) ∧ w'.cell? ⟨ga, 7, none⟩ = some (.int .i64 G.pv) ∧ w'.cell? ⟨ga, 8, none⟩ = some (.int .i64 G.nt) ∧ w'.cell? ⟨ga, 9, none⟩ = some (.int .i64 G.mx) ∧ w'.cell? ⟨ga, 10, none⟩ = some (.int .i64 G.ps) ∧ w'.cell? ⟨ga, 11, none⟩ = some (.int .i64 G.rn) ∧ w'.cell? ⟨ga, 12, none⟩ = some (.slice ao3 n cap3) ∧ w'.cell? ⟨gb, 0, none⟩ = some (.int .i64 G.ti) ∧ w'.cell? ⟨gb, 1, none⟩ = some (.int .i64 G.pc) ∧ w'.cell? ⟨gb, 2, none⟩ = some (.int .i64 G.rc) ∧ w'.cell? ⟨gb, 3, none⟩ = some (.int .i64 G.sq) ∧ w'.cell? ⟨gb, 4, none⟩ = some (.int .i64 G.wo) ∧ w'.cell? ⟨gb, 5, none⟩ = some (.int .i64 G.lk) ∧ w'.cell? ⟨gb, 6, none⟩ = some (.int .i64 G.cu) ∧ w'.cell? ⟨gb, 7, none⟩ = some (.int .i64 G.pv) ∧ w'.cell? ⟨gb, 8, none⟩ = some (.int .i64 G.nt) ∧ w'.cell? ⟨gb, 9, none⟩ = some (.int .i64 G.mx) ∧ w'.cell? ⟨gb, 10, none⟩ = some (.int .i64 G.ps) ∧ w'.cell? ⟨gb, 11, none⟩ = some (.int .i64 G.rn) ∧ w'.cell? ⟨gb, 12, none⟩ = some (.slice ao n cap) ∧ w'.cell? ⟨gx, 0, none⟩ = some (.int .u8 rk) ∧ w'.cell? ⟨gx, 1, none⟩ = some (.int .i32 rv) ∧ w'.cell? ⟨gy, 0, none⟩ = some (.int .u8 rk) ∧ w'.cell? ⟨gy, 1, none⟩ = some (.int .i32 rv) ∧ w'.cell? ⟨gn, 1, none⟩ = some (.slice a5 len' cu5) ∧ w'.cell? ⟨gn, 2, none⟩ = some (.int .i64 st')) (first | with_reducible exact i0 | with_reducible exact i1 | with_reducible exact i2 | with_reducible exact i3 | with_reducible exact i4 | with_reducible exact i5 | with_reducible exact i6) (first
      | ((with_reducible refine C6.out.mono ?_); rintro e V6 ⟨rfl, s6⟩; have HF := Lib.hid s6; have i6 := HF.out.cells; clear s6)
      | ((with_reducible refine C5.out.mono ?_); rintro e V5 ⟨rfl, s5⟩; have i5 := s5.cells; have C6 := Lib.hid (HC6.out _ s5); clear s5)
      | ((with_reducible refine C4.out.mono ?_); rintro e w' ⟨rfl, rfl⟩)
      | ((with_reducible refine C3.out.mono ?_); rintro e V3 ⟨rfl, s3⟩; have i4 := s3.cells; have C4 := Lib.hid (HC4.out _ s3); have C5 := Lib.hid (HC5.out _ s3); clear s3)
      | ((with_reducible refine C2.out.mono ?_); rintro e V2 ⟨rfl, r2, s2⟩; have i3 := s2.cells; have C3 := Lib.hid (HC3.out _ _ s2 r2); clear s2 r2)
      | ((with_reducible refine C1.out.mono ?_); rintro e V1 ⟨rfl, s1⟩; have i2 := s1.cells; have C2 := Lib.hid (HC2.out _ s1); clear s1))
    all_goals
      go_wp2
      go_ret
      exact ⟨by simp, HF.out.lo⟩

end Go.Proofs.Ythefdglocnalhaa.M2
