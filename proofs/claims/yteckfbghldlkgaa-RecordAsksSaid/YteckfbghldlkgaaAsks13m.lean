/-
  What reaperlaw13.asks tells: both memories are asked the same, and answer the same. Conditions: at most 200 numbers.
-/
import Derived.Test.YteckfbghldlkgaaMemoWalk13m
namespace Go.Proofs.Yteckfbghldlkgaa.M2
open Go.RowKit

theorem RB.f {w : World} {g : Nat} {c x : Int} (h : RB w g c x) (j : Nat) : w.frozen? ⟨g, j, none⟩ = false := by unfold RB at h; simp [World.frozen?, h]

/-- The memory, the document's one in a box, two records, two results. -/
structure AE (w : World) (n p : Nat) (u : Value) (zs : List Int) (g6 g11 g13 g15 g17 : Nat) (z0 z1 z2 z3 z4 c x : Int) (W : World) : Prop where
  m : Mem1 W w.heap.size p zs.length zs (1 + (zs.length : Int))
  o : W.ownsRow w.heap.size 2 1 u zs.length (zs.map (Value.int .i64))
  r : Boxed W g6 (.int .i64 (n : Int)) u (.int .i64 (1 + (n : Int)))
  a : B5 W g11 45 z0 z1 z2 z3 z4
  d : B5 W g13 45 z0 z1 z2 z3 z4
  s : RB W g15 c x
  t : RB W g17 c x
  b : Below w.heap.size w W

section
variable {w : World} {n p : Nat} {u : Value} {zs : List Int} {g6 g11 g13 g15 g17 : Nat} {z0 z1 z2 z3 z4 c x : Int}
theorem AE.fresh {W V : World} (h : AE w n p u zs g6 g11 g13 g15 g17 z0 z1 z2 z3 z4 c x W) (hb : Below W.heap.size W V) : AE w n p u zs g6 g11 g13 g15 g17 z0 z1 z2 z3 z4 c x V :=
  ⟨h.m.keep hb, own_keep h.o hb, h.r.keep hb, h.a.keep hb, h.d.keep hb, h.s.keep hb, h.t.keep hb, h.b.trans (hb.mono h.b.size)⟩
end

set_option maxRecDepth 100000 in
set_option maxHeartbeats 16000000 in
theorem asksBy {w : World} (ao : Option Addr) (len cap : Nat) (zs : List Int) (hz : Reads .i64 w ao len zs) (hl : len ≤ 200) (a k : Int) (b : Bool) (z0 z1 z2 z3 z4 c x : Int) (t : Bool)
    (N : ∀ (W : World) (B p : Nat) (size st : Int), Mem1 W B p size zs st → Calls Try.prog 18 #[.pointer (some ⟨p, 0, none⟩), .int .i64 a] W fun e w' => e = .returned (.tuple #[.int .i64 k, .bool b]) ∧ W = w')
    (RN : ∀ (W : World) (B : Nat) (u : Value) (size st : Int), W.ownsRow B 2 1 u zs.length (zs.map (Value.int .i64)) → Calls Try.prog 30 #[.agg #[.int .i64 size, u, .int .i64 st], .int .i64 a] W fun e w' => e = .returned (.tuple #[.int .i64 k, .bool b]) ∧ Below W.heap.size W w')
    (S : ∀ (W : World) (B p : Nat) (size st : Int), Mem1 W B p size zs st → Calls Try.prog 20 #[.pointer (some ⟨p, 0, none⟩), .int .i64 a] W fun e w' => e = .returned (.tuple #[.agg #[.int .i64 z0, .int .i64 z1, .int .i64 z2, .int .i64 z3, .int .i64 z4], .bool b]) ∧ Below W.heap.size W w')
    (RS : ∀ (W : World) (B : Nat) (u : Value) (size st : Int), W.ownsRow B 2 1 u zs.length (zs.map (Value.int .i64)) → Calls Try.prog 31 #[.agg #[.int .i64 size, u, .int .i64 st], .int .i64 a] W fun e w' => e = .returned (.tuple #[.agg #[.int .i64 z0, .int .i64 z1, .int .i64 z2, .int .i64 z3, .int .i64 z4], .bool b]) ∧ Below W.heap.size W w')
    (T : ∀ (W : World), Calls Try.prog 23 #[.agg #[.int .i64 z0, .int .i64 z1, .int .i64 z2, .int .i64 z3, .int .i64 z4]] W fun e w' => e = .returned (.tuple #[.agg #[.int .u8 c, .int .i32 x], .bool t]) ∧ Below W.heap.size W w')
    (O : ∀ (W : World), Calls Try.prog 32 #[.int .i64 z4] W fun e w' => e = .returned (.tuple #[.agg #[.int .u8 c, .int .i32 x], .bool t]) ∧ Below W.heap.size W w') :
    Calls Try.prog 15 #[.slice ao len cap, .int .i64 a] w fun e w' => e = .returned (.bool true) ∧ Below w.heap.size w w' := by
  obtain rfl : zs.length = len := hz.1
  have HN := Lib.hid N
  have HRN := Lib.hid RN
  have HS := Lib.hid S
  have HRS := Lib.hid RS
  have HT := Lib.hid T
  have HO := Lib.hid O
  have HMD := Lib.hid (memoryAny w ao zs.length cap zs hz hl)
  have HL := Lib.hid hl
  clear N RN S RS T O hz hl
  have hq := eqRes c x
  have hr := eqRec z0 z1 z2 z3 z4
  obtain ⟨len, hlen⟩ : ∃ n, zs.length = n := ⟨_, rfl⟩
  rw [hlen] at HMD HL ⊢
  have HE := Lib.hid hlen
  clear hlen
  go_enter Try.func15, Try.ntmps15
  go_wp2_with fail
  refine HMD.out.mono ?_
  clear HMD
  rintro e w1 ⟨p, u, rfl, m1, o1, b1⟩
  obtain ⟨au, cu, eu⟩ := ownShape o1
  rw [HE.out] at eu ⊢
  subst eu
  go_upto_region 2 with (fail)
  generalize hW2 : w1.alloc (.cells #[.int .i64 (len : Int), .slice au len cu, .int .i64 (1 + (len : Int))] 29) = W2
  have f2 : Below w1.heap.size w1 W2 := by subst hW2; exact (Below.refl _ _).alloc (Nat.le_refl _) _
  have HR := Lib.hid (show Boxed W2 w1.heap.size (.int .i64 (len : Int)) (.slice au len cu) (.int .i64 (1 + (len : Int))) by subst hW2; exact Boxed.new _ _ _ _)
  have HM := Lib.hid (m1.keep f2)
  have HW := Lib.hid (own_keep o1 f2)
  have HB := Lib.hid (b1.trans (f2.mono b1.size))
  clear m1 o1 b1 f2 hW2
  generalize w1.heap.size = g6 at *
  go_wp2_with fail
  refine (HN.out W2 _ p _ _ HM.out).mono ?_
  rintro e w' ⟨rfl, rfl⟩
  have r0 := HR.out.c0
  have r1 := HR.out.c1
  have r2 := HR.out.c2
  go_wp2_with fail
  refine (HRN.out W2 _ _ (len : Int) (1 + (len : Int)) HW.out).mono ?_
  clear r0 r1 r2
  rintro e w3 ⟨rfl, b3⟩
  have HR := Lib.hid (HR.out.keep b3)
  have HM := Lib.hid (HM.out.keep b3)
  have HW := Lib.hid (own_keep HW.out b3)
  have HB := Lib.hid (HB.out.trans (b3.mono HB.out.size))
  clear b3
  go_wp2_with fail
  refine (HS.out w3 _ p _ _ HM.out).mono ?_
  rintro e w4 ⟨rfl, b4⟩
  go_upto_region 7 with (fail)
  generalize hW5 : w4.alloc (.cells #[.int .i64 z0, .int .i64 z1, .int .i64 z2, .int .i64 z3, .int .i64 z4] 45) = W5
  have f5 : Below w3.heap.size w3 W5 := by subst hW5; exact b4.alloc b4.size _
  have HA := Lib.hid (show B5 W5 w4.heap.size 45 z0 z1 z2 z3 z4 by subst hW5; exact B5.new _ _ _ _ _ _ _)
  have HR := Lib.hid (HR.out.keep f5)
  have HM := Lib.hid (HM.out.keep f5)
  have HW := Lib.hid (own_keep HW.out f5)
  have HB := Lib.hid (HB.out.trans (f5.mono HB.out.size))
  clear b4 f5 hW5
  generalize w4.heap.size = g11 at *
  have r0 := HR.out.c0
  have r1 := HR.out.c1
  have r2 := HR.out.c2
  go_wp2_with fail
  refine (HRS.out W5 _ _ (len : Int) (1 + (len : Int)) HW.out).mono ?_
  clear r0 r1 r2
  rintro e w6 ⟨rfl, b6⟩
  go_upto_region 8 with (fail)
  generalize hW7 : w6.alloc (.cells #[.int .i64 z0, .int .i64 z1, .int .i64 z2, .int .i64 z3, .int .i64 z4] 45) = W7
  have f7 : Below W5.heap.size W5 W7 := by subst hW7; exact b6.alloc b6.size _
  have HD := Lib.hid (show B5 W7 w6.heap.size 45 z0 z1 z2 z3 z4 by subst hW7; exact B5.new _ _ _ _ _ _ _)
  have HA := Lib.hid (HA.out.keep f7)
  have HR := Lib.hid (HR.out.keep f7)
  have HM := Lib.hid (HM.out.keep f7)
  have HW := Lib.hid (own_keep HW.out f7)
  have HB := Lib.hid (HB.out.trans (f7.mono HB.out.size))
  clear b6 f7 hW7
  generalize w6.heap.size = g13 at *
  have r0 := HA.out.c0
  have r1 := HA.out.c1
  have r2 := HA.out.c2
  have r3 := HA.out.c3
  have r4 := HA.out.c4
  go_wp2_with fail
  refine (HT.out W7).mono ?_
  clear r0 r1 r2 r3 r4
  rintro e w8 ⟨rfl, b8⟩
  go_upto_region 9 with (fail)
  generalize hW9 : w8.alloc (.cells #[.int .u8 c, .int .i32 x] 50) = W9
  have f9 : Below W7.heap.size W7 W9 := by subst hW9; exact b8.alloc b8.size _
  have HX := Lib.hid (show RB W9 w8.heap.size c x by subst hW9; exact RB.new _ _ _)
  have HD := Lib.hid (HD.out.keep f9)
  have HA := Lib.hid (HA.out.keep f9)
  have HR := Lib.hid (HR.out.keep f9)
  have HM := Lib.hid (HM.out.keep f9)
  have HW := Lib.hid (own_keep HW.out f9)
  have HB := Lib.hid (HB.out.trans (f9.mono HB.out.size))
  clear b8 f9 hW9
  generalize w8.heap.size = g15 at *
  have r4 := HD.out.c4
  go_wp2_with fail
  refine (HO.out W9).mono ?_
  clear r4
  rintro e w10 ⟨rfl, b10⟩
  go_upto_region 10 with (fail)
  generalize hW11 : w10.alloc (.cells #[.int .u8 c, .int .i32 x] 50) = W11
  have f11 : Below W9.heap.size W9 W11 := by subst hW11; exact b10.alloc b10.size _
  have HAE := Lib.hid (show AE w len p (.slice au len cu) zs g6 g11 g13 g15 w10.heap.size z0 z1 z2 z3 z4 c x W11 from
    ⟨HM.out.keep f11, own_keep HW.out f11, HR.out.keep f11, HA.out.keep f11, HD.out.keep f11, HX.out.keep f11, by subst hW11; exact RB.new _ _ _, HB.out.trans (f11.mono HB.out.size)⟩)
  clear b10 f11 hW11 HM HW HR HA HD HX HB HN HRN HS HRS HT HO
  generalize w10.heap.size = g17 at *
  have HST := Lib.hid (fun (V : World) (h : AE w len p (.slice au len cu) zs g6 g11 g13 g15 g17 z0 z1 z2 z3 z4 c x V) => (show Calls Try.prog 33 #[.pointer (some ⟨p, 0, none⟩)] V fun e w' => e = .returned (.int .i64 (1 + (len : Int))) ∧ V = w' by have C := steps1 h.m; rw [HE.out] at C; exact C))
  have HMN := Lib.hid (fun (V : World) (h : AE w len p (.slice au len cu) zs g6 g11 g13 g15 g17 z0 z1 z2 z3 z4 c x V) => many1 h.m)
  have HRM := Lib.hid (fun (V : World) (h : AE w len p (.slice au len cu) zs g6 g11 g13 g15 g17 z0 z1 z2 z3 z4 c x V) => refMany (size := (len : Int)) (st := 1 + (len : Int)) h.o (by have := HE.out; have := HL.out; omega))
  generalize mn zs.length = M at *
  go_wp2_with fail
  refine (HST.out W11 HAE.out).mono ?_
  rintro e w' ⟨rfl, rfl⟩
  have HDR := Lib.hid (HAE.out.fresh (Below.refl _ _).drew)
  have i0 := HAE.out.r.c0
  have i1 := HAE.out.r.c1
  have i2 := HAE.out.r.c2
  have i3 := HAE.out.a.c0
  have i4 := HAE.out.a.c1
  have i5 := HAE.out.a.c2
  have i6 := HAE.out.a.c3
  have i7 := HAE.out.a.c4
  have i8 := HAE.out.d.c0
  have i9 := HAE.out.d.c1
  have i10 := HAE.out.d.c2
  have i11 := HAE.out.d.c3
  have i12 := HAE.out.d.c4
  have i13 := HAE.out.s.c0
  have i14 := HAE.out.s.c1
  have i15 := HAE.out.t.c0
  have i16 := HAE.out.t.c1
  have j0 := HDR.out.r.c0
  have j1 := HDR.out.r.c1
  have j2 := HDR.out.r.c2
  have j3 := HDR.out.a.c0
  have j4 := HDR.out.a.c1
  have j5 := HDR.out.a.c2
  have j6 := HDR.out.a.c3
  have j7 := HDR.out.a.c4
  have j8 := HDR.out.d.c0
  have j9 := HDR.out.d.c1
  have j10 := HDR.out.d.c2
  have j11 := HDR.out.d.c3
  have j12 := HDR.out.d.c4
  have j13 := HDR.out.s.c0
  have j14 := HDR.out.s.c1
  have j15 := HDR.out.t.c0
  have j16 := HDR.out.t.c1
  have C1 := Lib.hid (HMN.out _ HDR.out)
  have C2 := Lib.hid (HRM.out _ HDR.out)
  go_wp2
  go_region_held3 (fun w' => w'.cell? ⟨g6, 0, none⟩ = some (.int .i64 (len : Int)) ∧ w'.cell? ⟨g6, 1, none⟩ = some (.slice au len cu) ∧ w'.cell? ⟨g6, 2, none⟩ = some (.int .i64 (1 + (len : Int))) ∧ w'.cell? ⟨g11, 0, none⟩ = some (.int .i64 z0) ∧ w'.cell? ⟨g11, 1, none⟩ = some (.int .i64 z1) ∧ w'.cell? ⟨g11, 2, none⟩ = some (.int .i64 z2) ∧ w'.cell? ⟨g11, 3, none⟩ = some (.int .i64 z3) ∧ w'.cell? ⟨g11, 4, none⟩ = some (.int .i64 z4) ∧ w'.cell? ⟨g13, 0, none⟩ = some (.int .i64 z0) ∧ w'.cell? ⟨g13, 1, none⟩ = some (.int .i64 z1) ∧ w'.cell? ⟨g13, 2, none⟩ = some (.int .i64 z2) ∧ w'.cell? ⟨g13, 3, none⟩ = some (.int .i64 z3) ∧ w'.cell? ⟨g13, 4, none⟩ = some (.int .i64 z4) ∧ w'.cell? ⟨g15, 0, none⟩ = some (.int .u8 c) ∧ w'.cell? ⟨g15, 1, none⟩ = some (.int .i32 x) ∧ w'.cell? ⟨g17, 0, none⟩ = some (.int .u8 c) ∧ w'.cell? ⟨g17, 1, none⟩ = some (.int .i32 x)) (first | with_reducible exact ⟨i0, i1, i2, i3, i4, i5, i6, i7, i8, i9, i10, i11, i12, i13, i14, i15, i16⟩ | with_reducible exact ⟨j0, j1, j2, j3, j4, j5, j6, j7, j8, j9, j10, j11, j12, j13, j14, j15, j16⟩ | with_reducible exact ⟨k0, k1, k2, k3, k4, k5, k6, k7, k8, k9, k10, k11, k12, k13, k14, k15, k16⟩ | with_reducible exact ⟨l0, l1, l2, l3, l4, l5, l6, l7, l8, l9, l10, l11, l12, l13, l14, l15, l16⟩) (first
    | ((with_reducible refine C4.out.mono ?_); rintro e w' ⟨rfl, rfl⟩)
    | ((with_reducible refine C3.out.mono ?_); rintro e W13 ⟨rfl, b13⟩; have HF := Lib.hid (HG.out.fresh b13); have l0 := HF.out.r.c0; have l1 := HF.out.r.c1; have l2 := HF.out.r.c2; have l3 := HF.out.a.c0; have l4 := HF.out.a.c1; have l5 := HF.out.a.c2; have l6 := HF.out.a.c3; have l7 := HF.out.a.c4; have l8 := HF.out.d.c0; have l9 := HF.out.d.c1; have l10 := HF.out.d.c2; have l11 := HF.out.d.c3; have l12 := HF.out.d.c4; have l13 := HF.out.s.c0; have l14 := HF.out.s.c1; have l15 := HF.out.t.c0; have l16 := HF.out.t.c1; have C4 := Lib.hid (HST.out _ HF.out); clear b13)
    | ((with_reducible refine C2.out.mono ?_); rintro e W12 ⟨rfl, b12⟩; have HG := Lib.hid (HDR.out.fresh b12); have k0 := HG.out.r.c0; have k1 := HG.out.r.c1; have k2 := HG.out.r.c2; have k3 := HG.out.a.c0; have k4 := HG.out.a.c1; have k5 := HG.out.a.c2; have k6 := HG.out.a.c3; have k7 := HG.out.a.c4; have k8 := HG.out.d.c0; have k9 := HG.out.d.c1; have k10 := HG.out.d.c2; have k11 := HG.out.d.c3; have k12 := HG.out.d.c4; have k13 := HG.out.s.c0; have k14 := HG.out.s.c1; have k15 := HG.out.t.c0; have k16 := HG.out.t.c1; have C3 := Lib.hid (waitsAny z0 z1 z2 z3 z4 W12); clear b12)
    | ((with_reducible refine C1.out.mono ?_); rintro e w' ⟨rfl, rfl⟩))
  all_goals
    go_wp2
    go_ret
    exact ⟨by simp, HF.out.b⟩

end Go.Proofs.Yteckfbghldlkgaa.M2
