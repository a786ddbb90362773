/-
  The ways of SpecFull: for objects, items, operations and bytes it answers true and leaves all old memory as it was.
-/
import Derived.Test.YtejnadokjnfagaaOBox8
import Derived.Test.YtejnadokjnfagaaOpsC8
namespace Go.Proofs.Ytejnadokjnfagaa
open Go.RowKit Go.Lib

set_option maxRecDepth 100000 in
set_option maxHeartbeats 16000000 in
theorem fullWay1T {w : World} (obj : Int) (ao : Option Addr) (n cap : Nat) (zs : List Int) (k0 x more q3 mr M N : Int) (hz : Reads .i32 w ao n zs) (hn : n ≤ 100)
    (c1 : obj.tmod 3 = q3) (c2 : IntKind.u8.wrap q3 = q3) (c3 : IntKind.u8.wrap (1 + q3) = 2) (d1 : k0.tmod 4 = 0)
    (m1 : more.tmod 3 = mr) (m2 : IntKind.u8.wrap mr = mr) (m3 : IntKind.i64.wrap mr = mr) (m4 : IntKind.i64.wrap ((n : Int) - mr) = M) (m5 : (if 0 < M then M else 0) = N)
    (V2 : Int) (Z1 Z2 : List Int) (hL1 : objL 2 (mostOf N) zs 1 x = Z1) (hC1 : objC 2 (mostOf N) zs 1 = 3) (hV1 : objV 2 zs 1 = 0) (hL2 : objL 2 (mostOf 5) [] 1 x = Z2) (hC2 : objC 2 (mostOf 5) [] 1 = 1) (hV2 : objV 2 [] 1 = V2) (hZ : Z1 = zs) (h4 : Z2.length = 1) :
    Calls Try.prog 8 #[.int .u8 obj, .slice ao n cap, .agg #[.int .u8 k0, .int .i32 x], .int .u8 more] w fun e w' => e = .returned (.bool true) ∧ Below w.heap.size w w' := by
  have hq := eqSelf
  have HZ := Lib.hid hz
  have hnl := hz.1
  have HM := Lib.hid (And.intro c1 (And.intro c2 c3))
  have HMM := Lib.hid (And.intro c3 (And.intro d1 (And.intro m1 (And.intro m2 (And.intro m3 (And.intro m4 m5))))))
  have HE1 := Lib.hid (And.intro hL1 (And.intro hC1 hV1))
  have HE2 := Lib.hid (And.intro hL2 (And.intro hC2 hV2))
  have HE0 := Lib.hid (And.intro hZ (show zs.length = n from hnl))
  clear hL1 hC1 hV1 hL2 hC2 hV2
  clear hz
  go_enter Try.func8, Try.ntmps8
  go_upto_region 4 with (fail)
  have yW := OBox.new w k0 x
  have hbW : Below w.heap.size w (w.alloc (.cells #[.int .u8 k0, .int .i32 x] 36)) := (Below.refl _ _).alloc (Nat.le_refl _) _
  have HBW := Lib.hid hbW
  clear hbW c1 c2
  generalize w.alloc (.cells #[.int .u8 k0, .int .i32 x] 36) = W at *
  generalize hg : w.heap.size = g at *
  have y0 := yW.c0
  have yf := yW.f
  have HY := Lib.hid yW
  go_upto_region 5 with (fail)
  have yW := HY.out.set0 1
  have HBW := Lib.hid (HBW.out.setCell (p := ⟨g, 0, none⟩) (by simp) (.int .u8 1))
  clear y0 yf HY d1
  generalize W.setCell ⟨g, 0, none⟩ (.int .u8 1) = W at *
  have y0 := yW.c0
  have y1 := yW.c1
  have HY := Lib.hid yW
  clear yW
  have HA := Lib.hid (applyAny W 2 N ao n cap zs 1 x (HZ.out.keep (by rw [hg]; exact HBW.out)) (by omega))
  have HBW := Lib.hid (show Below w.heap.size w W by rw [hg]; exact HBW.out)
  clear hg
  go_wp2_with fail
  refine HA.out.mono ?_
  rintro e w2 ⟨v2, rfl, t2, _, b2⟩
  rw [HE1.out.1] at t2
  rw [HE1.out.2.1, HE1.out.2.2]
  obtain ⟨a2, p2, rfl, rd2, _⟩ := tailReads t2
  have HB2 := Lib.hid (HBW.out.trans (b2.mono HBW.out.size))
  have HY2 := Lib.hid (HY.out.keep b2)
  have HR2 := Lib.hid rd2
  clear t2 b2 rd2 HA HY HBW y0 y1 m1 m2 m3 m4 m5 c3
  go_upto_region 8 with (fail)
  have yR := RBox.new w2 3 0
  have hb3 : Below w2.heap.size w2 (w2.alloc (.cells #[.int .u8 3, .int .i32 0] 32)) := (Below.refl _ _).alloc (Nat.le_refl _) _
  have HB3 := Lib.hid (HB2.out.trans (hb3.mono HB2.out.size))
  have HY3 := Lib.hid (HY2.out.keep hb3)
  have HR3 := Lib.hid (HR2.out.keep hb3)
  have HX3 := Lib.hid yR
  clear yR hb3 HB2 HY2 HR2
  generalize w2.alloc (.cells #[.int .u8 3, .int .i32 0] 32) = w3 at *
  generalize w2.heap.size = g2 at *
  have y0 := HY3.out.c0
  have y1 := HY3.out.c1
  have HA := Lib.hid (applyAny w3 2 5 none 0 0 [] 1 x (ints_none _ _) (by omega))
  go_wp2_with fail
  refine HA.out.mono ?_
  rintro e w4 ⟨v4, rfl, t4, _, b4⟩
  rw [HE2.out.1] at t4
  rw [HE2.out.2.1, HE2.out.2.2]
  obtain ⟨a4, p4, rfl, rd4, _⟩ := tailReads t4
  have HB4 := Lib.hid (HB3.out.trans (b4.mono HB3.out.size))
  have HX4 := Lib.hid (HX3.out.keep b4)
  have HR4 := Lib.hid (HR3.out.keep b4)
  clear t4 b4 rd4 HA HY3 HB3 HX3 HR3 y0 y1
  rw [h4]
  go_upto_region 9 with (fail)
  have yR := RBox.new w4 1 V2
  have hb5 : Below w4.heap.size w4 (w4.alloc (.cells #[.int .u8 1, .int .i32 V2] 32)) := (Below.refl _ _).alloc (Nat.le_refl _) _
  have HB5 := Lib.hid (HB4.out.trans (hb5.mono HB4.out.size))
  have HX5 := Lib.hid (HX4.out.keep hb5)
  have HR5 := Lib.hid (HR4.out.keep hb5)
  have HX6 := Lib.hid yR
  clear yR hb5 HB4 HX4 HR4
  generalize w4.alloc (.cells #[.int .u8 1, .int .i32 V2] 32) = w5 at *
  generalize w4.heap.size = g4 at *
  go_wp2_with fail
  refine (known _).mono ?_
  rintro e w7 ⟨rfl, b7⟩
  have HB7 := Lib.hid (HB5.out.trans (b7.mono HB5.out.size))
  have HX7 := Lib.hid (And.intro (HX5.out.keep b7) (HX6.out.keep b7))
  have HR7 := Lib.hid (HR5.out.keep b7)
  clear b7 HB5 HX5 HX6 HR5
  have x0 := HX7.out.1.c0
  have x1 := HX7.out.1.c1
  have x2 := HX7.out.2.c0
  have x3 := HX7.out.2.c1
  have HS := Lib.hid (sameEq w7 a2 ao n p2 cap zs (by have h := HR7.out; rw [HE0.out.1, HE0.out.2] at h; exact h) (HZ.out.keep HB7.out) (by omega))
  go_wp2_with fail
  refine HS.out.mono ?_
  rintro e w8 ⟨rfl, b8⟩
  have HB8 := Lib.hid (HB7.out.trans (b8.mono HB7.out.size))
  have z2 := (HX7.out.2.keep b8).c0
  have z3 := (HX7.out.2.keep b8).c1
  clear b8 HB7 x0 x1 x2 x3
  go_wp2
  go_ret
  exact ⟨rfl, HB8.out⟩

set_option maxRecDepth 100000 in
set_option maxHeartbeats 16000000 in
theorem fullWay1F {w : World} (obj : Int) (ao : Option Addr) (n cap : Nat) (zs : List Int) (k0 x more K q3 mr M N : Int) (hz : Reads .i32 w ao n zs) (hn : n ≤ 100)
    (c1 : obj.tmod 3 = q3) (c2 : IntKind.u8.wrap q3 = q3) (c3 : IntKind.u8.wrap (1 + q3) = K) (d1 : k0.tmod 4 = 0)
    (m1 : more.tmod 3 = mr) (m2 : IntKind.u8.wrap mr = mr) (m3 : IntKind.i64.wrap mr = mr) (m4 : IntKind.i64.wrap ((n : Int) - mr) = M) (m5 : (if 0 < M then M else 0) = N)
    (_ : (K == 2) = false) (_ : ¬ K = 2) (V2 : Int) (Z1 Z2 : List Int) (hL1 : objL K (mostOf N) zs 1 x = Z1) (hC1 : objC K (mostOf N) zs 1 = 3) (hV1 : objV K zs 1 = 0) (hL2 : objL K (mostOf 5) [] 1 x = Z2) (hC2 : objC K (mostOf 5) [] 1 = 1) (hV2 : objV K [] 1 = V2) (hZ : Z1 = zs) (h4 : Z2.length = 1) :
    Calls Try.prog 8 #[.int .u8 obj, .slice ao n cap, .agg #[.int .u8 k0, .int .i32 x], .int .u8 more] w fun e w' => e = .returned (.bool true) ∧ Below w.heap.size w w' := by
  have hq := eqSelf
  have HZ := Lib.hid hz
  have hnl := hz.1
  have HM := Lib.hid (And.intro c1 (And.intro c2 c3))
  have HMM := Lib.hid (And.intro c3 (And.intro d1 (And.intro m1 (And.intro m2 (And.intro m3 (And.intro m4 m5))))))
  have HE1 := Lib.hid (And.intro hL1 (And.intro hC1 hV1))
  have HE2 := Lib.hid (And.intro hL2 (And.intro hC2 hV2))
  have HE0 := Lib.hid (And.intro hZ (show zs.length = n from hnl))
  clear hL1 hC1 hV1 hL2 hC2 hV2
  clear hz
  go_enter Try.func8, Try.ntmps8
  go_upto_region 4 with (fail)
  have yW := OBox.new w k0 x
  have hbW : Below w.heap.size w (w.alloc (.cells #[.int .u8 k0, .int .i32 x] 36)) := (Below.refl _ _).alloc (Nat.le_refl _) _
  have HBW := Lib.hid hbW
  clear hbW c1 c2
  generalize w.alloc (.cells #[.int .u8 k0, .int .i32 x] 36) = W at *
  generalize hg : w.heap.size = g at *
  have y0 := yW.c0
  have yf := yW.f
  have HY := Lib.hid yW
  go_upto_region 5 with (fail)
  have yW := HY.out.set0 1
  have HBW := Lib.hid (HBW.out.setCell (p := ⟨g, 0, none⟩) (by simp) (.int .u8 1))
  clear y0 yf HY d1
  generalize W.setCell ⟨g, 0, none⟩ (.int .u8 1) = W at *
  have y0 := yW.c0
  have y1 := yW.c1
  have HY := Lib.hid yW
  clear yW
  have HA := Lib.hid (applyAny W K N ao n cap zs 1 x (HZ.out.keep (by rw [hg]; exact HBW.out)) (by omega))
  have HBW := Lib.hid (show Below w.heap.size w W by rw [hg]; exact HBW.out)
  clear hg
  go_wp2_with fail
  refine HA.out.mono ?_
  rintro e w2 ⟨v2, rfl, t2, _, b2⟩
  rw [HE1.out.1] at t2
  rw [HE1.out.2.1, HE1.out.2.2]
  obtain ⟨a2, p2, rfl, rd2, _⟩ := tailReads t2
  have HB2 := Lib.hid (HBW.out.trans (b2.mono HBW.out.size))
  have HY2 := Lib.hid (HY.out.keep b2)
  have HR2 := Lib.hid rd2
  clear t2 b2 rd2 HA HY HBW y0 y1 m1 m2 m3 m4 m5 c3
  go_upto_region 8 with (fail)
  have yR := RBox.new w2 3 0
  have hb3 : Below w2.heap.size w2 (w2.alloc (.cells #[.int .u8 3, .int .i32 0] 32)) := (Below.refl _ _).alloc (Nat.le_refl _) _
  have HB3 := Lib.hid (HB2.out.trans (hb3.mono HB2.out.size))
  have HY3 := Lib.hid (HY2.out.keep hb3)
  have HR3 := Lib.hid (HR2.out.keep hb3)
  have HX3 := Lib.hid yR
  clear yR hb3 HB2 HY2 HR2
  generalize w2.alloc (.cells #[.int .u8 3, .int .i32 0] 32) = w3 at *
  generalize w2.heap.size = g2 at *
  have y0 := HY3.out.c0
  have y1 := HY3.out.c1
  have HA := Lib.hid (applyAny w3 K 5 none 0 0 [] 1 x (ints_none _ _) (by omega))
  go_wp2_with fail
  refine HA.out.mono ?_
  rintro e w4 ⟨v4, rfl, t4, _, b4⟩
  rw [HE2.out.1] at t4
  rw [HE2.out.2.1, HE2.out.2.2]
  obtain ⟨a4, p4, rfl, rd4, _⟩ := tailReads t4
  have HB4 := Lib.hid (HB3.out.trans (b4.mono HB3.out.size))
  have HX4 := Lib.hid (HX3.out.keep b4)
  have HR4 := Lib.hid (HR3.out.keep b4)
  clear t4 b4 rd4 HA HY3 HB3 HX3 HR3 y0 y1
  rw [h4]
  go_upto_region 9 with (fail)
  have yR := RBox.new w4 1 V2
  have hb5 : Below w4.heap.size w4 (w4.alloc (.cells #[.int .u8 1, .int .i32 V2] 32)) := (Below.refl _ _).alloc (Nat.le_refl _) _
  have HB5 := Lib.hid (HB4.out.trans (hb5.mono HB4.out.size))
  have HX5 := Lib.hid (HX4.out.keep hb5)
  have HR5 := Lib.hid (HR4.out.keep hb5)
  have HX6 := Lib.hid yR
  clear yR hb5 HB4 HX4 HR4
  generalize w4.alloc (.cells #[.int .u8 1, .int .i32 V2] 32) = w5 at *
  generalize w4.heap.size = g4 at *
  go_wp2_with fail
  refine (known _).mono ?_
  rintro e w7 ⟨rfl, b7⟩
  have HB7 := Lib.hid (HB5.out.trans (b7.mono HB5.out.size))
  have HX7 := Lib.hid (And.intro (HX5.out.keep b7) (HX6.out.keep b7))
  have HR7 := Lib.hid (HR5.out.keep b7)
  clear b7 HB5 HX5 HX6 HR5
  have x0 := HX7.out.1.c0
  have x1 := HX7.out.1.c1
  have x2 := HX7.out.2.c0
  have x3 := HX7.out.2.c1
  have HS := Lib.hid (sameEq w7 a2 ao n p2 cap zs (by have h := HR7.out; rw [HE0.out.1, HE0.out.2] at h; exact h) (HZ.out.keep HB7.out) (by omega))
  go_wp2_with fail
  refine HS.out.mono ?_
  rintro e w8 ⟨rfl, b8⟩
  have HB8 := Lib.hid (HB7.out.trans (b8.mono HB7.out.size))
  have z2 := (HX7.out.2.keep b8).c0
  have z3 := (HX7.out.2.keep b8).c1
  clear b8 HB7 x0 x1 x2 x3
  go_wp2
  go_ret
  exact ⟨rfl, HB8.out⟩

set_option maxRecDepth 100000 in
set_option maxHeartbeats 16000000 in
theorem fullWay2T {w : World} (obj : Int) (ao : Option Addr) (n cap : Nat) (zs : List Int) (k0 x more q3 mr M N : Int) (hz : Reads .i32 w ao n zs) (hn : n ≤ 100)
    (c1 : obj.tmod 3 = q3) (c2 : IntKind.u8.wrap q3 = q3) (c3 : IntKind.u8.wrap (1 + q3) = 2) (d1 : k0.tmod 4 = 1)
    (m1 : more.tmod 3 = mr) (m2 : IntKind.u8.wrap mr = mr) (m3 : IntKind.i64.wrap mr = mr) (m4 : IntKind.i64.wrap ((n : Int) - mr) = M) (m5 : (if 0 < M then M else 0) = N)
    (V2 : Int) (Z1 Z2 : List Int) (hL1 : objL 2 (mostOf N) zs 2 x = Z1) (hC1 : objC 2 (mostOf N) zs 2 = 3) (hV1 : objV 2 zs 2 = 0) (hL2 : objL 2 (mostOf 5) [] 2 x = Z2) (hC2 : objC 2 (mostOf 5) [] 2 = 1) (hV2 : objV 2 [] 2 = V2) (hZ : Z1 = zs) (h4 : Z2.length = 1) :
    Calls Try.prog 8 #[.int .u8 obj, .slice ao n cap, .agg #[.int .u8 k0, .int .i32 x], .int .u8 more] w fun e w' => e = .returned (.bool true) ∧ Below w.heap.size w w' := by
  have hq := eqSelf
  have HZ := Lib.hid hz
  have hnl := hz.1
  have HM := Lib.hid (And.intro c1 (And.intro c2 c3))
  have HMM := Lib.hid (And.intro c3 (And.intro d1 (And.intro m1 (And.intro m2 (And.intro m3 (And.intro m4 m5))))))
  have HE1 := Lib.hid (And.intro hL1 (And.intro hC1 hV1))
  have HE2 := Lib.hid (And.intro hL2 (And.intro hC2 hV2))
  have HE0 := Lib.hid (And.intro hZ (show zs.length = n from hnl))
  clear hL1 hC1 hV1 hL2 hC2 hV2
  clear hz
  go_enter Try.func8, Try.ntmps8
  go_upto_region 4 with (fail)
  have yW := OBox.new w k0 x
  have hbW : Below w.heap.size w (w.alloc (.cells #[.int .u8 k0, .int .i32 x] 36)) := (Below.refl _ _).alloc (Nat.le_refl _) _
  have HBW := Lib.hid hbW
  clear hbW c1 c2
  generalize w.alloc (.cells #[.int .u8 k0, .int .i32 x] 36) = W at *
  generalize hg : w.heap.size = g at *
  have y0 := yW.c0
  have yf := yW.f
  have HY := Lib.hid yW
  go_upto_region 5 with (fail)
  have yW := HY.out.set0 2
  have HBW := Lib.hid (HBW.out.setCell (p := ⟨g, 0, none⟩) (by simp) (.int .u8 2))
  clear y0 yf HY d1
  generalize W.setCell ⟨g, 0, none⟩ (.int .u8 2) = W at *
  have y0 := yW.c0
  have y1 := yW.c1
  have HY := Lib.hid yW
  clear yW
  have HA := Lib.hid (applyAny W 2 N ao n cap zs 2 x (HZ.out.keep (by rw [hg]; exact HBW.out)) (by omega))
  have HBW := Lib.hid (show Below w.heap.size w W by rw [hg]; exact HBW.out)
  clear hg
  go_wp2_with fail
  refine HA.out.mono ?_
  rintro e w2 ⟨v2, rfl, t2, _, b2⟩
  rw [HE1.out.1] at t2
  rw [HE1.out.2.1, HE1.out.2.2]
  obtain ⟨a2, p2, rfl, rd2, _⟩ := tailReads t2
  have HB2 := Lib.hid (HBW.out.trans (b2.mono HBW.out.size))
  have HY2 := Lib.hid (HY.out.keep b2)
  have HR2 := Lib.hid rd2
  clear t2 b2 rd2 HA HY HBW y0 y1 m1 m2 m3 m4 m5 c3
  go_upto_region 8 with (fail)
  have yR := RBox.new w2 3 0
  have hb3 : Below w2.heap.size w2 (w2.alloc (.cells #[.int .u8 3, .int .i32 0] 32)) := (Below.refl _ _).alloc (Nat.le_refl _) _
  have HB3 := Lib.hid (HB2.out.trans (hb3.mono HB2.out.size))
  have HY3 := Lib.hid (HY2.out.keep hb3)
  have HR3 := Lib.hid (HR2.out.keep hb3)
  have HX3 := Lib.hid yR
  clear yR hb3 HB2 HY2 HR2
  generalize w2.alloc (.cells #[.int .u8 3, .int .i32 0] 32) = w3 at *
  generalize w2.heap.size = g2 at *
  have y0 := HY3.out.c0
  have y1 := HY3.out.c1
  have HA := Lib.hid (applyAny w3 2 5 none 0 0 [] 2 x (ints_none _ _) (by omega))
  go_wp2_with fail
  refine HA.out.mono ?_
  rintro e w4 ⟨v4, rfl, t4, _, b4⟩
  rw [HE2.out.1] at t4
  rw [HE2.out.2.1, HE2.out.2.2]
  obtain ⟨a4, p4, rfl, rd4, _⟩ := tailReads t4
  have HB4 := Lib.hid (HB3.out.trans (b4.mono HB3.out.size))
  have HX4 := Lib.hid (HX3.out.keep b4)
  have HR4 := Lib.hid (HR3.out.keep b4)
  clear t4 b4 rd4 HA HY3 HB3 HX3 HR3 y0 y1
  rw [h4]
  go_upto_region 9 with (fail)
  have yR := RBox.new w4 1 V2
  have hb5 : Below w4.heap.size w4 (w4.alloc (.cells #[.int .u8 1, .int .i32 V2] 32)) := (Below.refl _ _).alloc (Nat.le_refl _) _
  have HB5 := Lib.hid (HB4.out.trans (hb5.mono HB4.out.size))
  have HX5 := Lib.hid (HX4.out.keep hb5)
  have HR5 := Lib.hid (HR4.out.keep hb5)
  have HX6 := Lib.hid yR
  clear yR hb5 HB4 HX4 HR4
  generalize w4.alloc (.cells #[.int .u8 1, .int .i32 V2] 32) = w5 at *
  generalize w4.heap.size = g4 at *
  go_wp2_with fail
  refine (known _).mono ?_
  rintro e w7 ⟨rfl, b7⟩
  have HB7 := Lib.hid (HB5.out.trans (b7.mono HB5.out.size))
  have HX7 := Lib.hid (And.intro (HX5.out.keep b7) (HX6.out.keep b7))
  have HR7 := Lib.hid (HR5.out.keep b7)
  clear b7 HB5 HX5 HX6 HR5
  have x0 := HX7.out.1.c0
  have x1 := HX7.out.1.c1
  have x2 := HX7.out.2.c0
  have x3 := HX7.out.2.c1
  have HS := Lib.hid (sameEq w7 a2 ao n p2 cap zs (by have h := HR7.out; rw [HE0.out.1, HE0.out.2] at h; exact h) (HZ.out.keep HB7.out) (by omega))
  go_wp2_with fail
  refine HS.out.mono ?_
  rintro e w8 ⟨rfl, b8⟩
  have HB8 := Lib.hid (HB7.out.trans (b8.mono HB7.out.size))
  have z2 := (HX7.out.2.keep b8).c0
  have z3 := (HX7.out.2.keep b8).c1
  clear b8 HB7 x0 x1 x2 x3
  go_wp2
  go_ret
  exact ⟨rfl, HB8.out⟩

set_option maxRecDepth 100000 in
set_option maxHeartbeats 16000000 in
theorem fullWay2FN {w : World} (obj : Int) (ao : Option Addr) (n cap : Nat) (zs : List Int) (k0 x more K q3 mr M N : Int) (hz : Reads .i32 w ao n zs) (hn : n ≤ 100)
    (c1 : obj.tmod 3 = q3) (c2 : IntKind.u8.wrap q3 = q3) (c3 : IntKind.u8.wrap (1 + q3) = K) (d1 : k0.tmod 4 = 1)
    (m1 : more.tmod 3 = mr) (m2 : IntKind.u8.wrap mr = mr) (m3 : IntKind.i64.wrap mr = mr) (m4 : IntKind.i64.wrap ((n : Int) - mr) = M) (m5 : (if 0 < M then M else 0) = N)
    (_ : (K == 2) = false) (_ : ¬ K = 2) (C1 V1 : Int) (Z1 Z2 : List Int) (hL1 : objL K (mostOf N) zs 2 x = Z1) (hC1 : objC K (mostOf N) zs 2 = C1) (hV1 : objV K zs 2 = V1) (hL2 : objL K (mostOf 5) [] 2 x = Z2) (hC2 : objC K (mostOf 5) [] 2 = 4) (hV2 : objV K [] 2 = 0) (h0 : n = 0) (h4 : Z2.length = 0) :
    Calls Try.prog 8 #[.int .u8 obj, .slice ao n cap, .agg #[.int .u8 k0, .int .i32 x], .int .u8 more] w fun e w' => e = .returned (.bool true) ∧ Below w.heap.size w w' := by
  have hq := eqSelf
  have HZ := Lib.hid hz
  have hnl := hz.1
  have HM := Lib.hid (And.intro c1 (And.intro c2 c3))
  have HMM := Lib.hid (And.intro c3 (And.intro d1 (And.intro m1 (And.intro m2 (And.intro m3 (And.intro m4 m5))))))
  have HE1 := Lib.hid (And.intro hL1 (And.intro hC1 hV1))
  have HE2 := Lib.hid (And.intro hL2 (And.intro hC2 hV2))
  have k3 : ((n : Int) == 0) = true := by simpa using h0
  clear h0
  clear hL1 hC1 hV1 hL2 hC2 hV2
  clear hz
  go_enter Try.func8, Try.ntmps8
  go_upto_region 4 with (fail)
  have yW := OBox.new w k0 x
  have hbW : Below w.heap.size w (w.alloc (.cells #[.int .u8 k0, .int .i32 x] 36)) := (Below.refl _ _).alloc (Nat.le_refl _) _
  have HBW := Lib.hid hbW
  clear hbW c1 c2
  generalize w.alloc (.cells #[.int .u8 k0, .int .i32 x] 36) = W at *
  generalize hg : w.heap.size = g at *
  have y0 := yW.c0
  have yf := yW.f
  have HY := Lib.hid yW
  go_upto_region 5 with (fail)
  have yW := HY.out.set0 2
  have HBW := Lib.hid (HBW.out.setCell (p := ⟨g, 0, none⟩) (by simp) (.int .u8 2))
  clear y0 yf HY d1
  generalize W.setCell ⟨g, 0, none⟩ (.int .u8 2) = W at *
  have y0 := yW.c0
  have y1 := yW.c1
  have HY := Lib.hid yW
  clear yW
  have HA := Lib.hid (applyAny W K N ao n cap zs 2 x (HZ.out.keep (by rw [hg]; exact HBW.out)) (by omega))
  have HBW := Lib.hid (show Below w.heap.size w W by rw [hg]; exact HBW.out)
  clear hg
  go_wp2_with fail
  refine HA.out.mono ?_
  rintro e w2 ⟨v2, rfl, t2, _, b2⟩
  rw [HE1.out.1] at t2
  rw [HE1.out.2.1, HE1.out.2.2]
  obtain ⟨a2, p2, rfl, rd2, _⟩ := tailReads t2
  have HB2 := Lib.hid (HBW.out.trans (b2.mono HBW.out.size))
  have HY2 := Lib.hid (HY.out.keep b2)
  have HR2 := Lib.hid rd2
  clear t2 b2 rd2 HA HY HBW y0 y1 m1 m2 m3 m4 m5 c3
  go_upto_region 8 with (fail)
  have yR := RBox.new w2 C1 V1
  have hb3 : Below w2.heap.size w2 (w2.alloc (.cells #[.int .u8 C1, .int .i32 V1] 32)) := (Below.refl _ _).alloc (Nat.le_refl _) _
  have HB3 := Lib.hid (HB2.out.trans (hb3.mono HB2.out.size))
  have HY3 := Lib.hid (HY2.out.keep hb3)
  have HR3 := Lib.hid (HR2.out.keep hb3)
  have HX3 := Lib.hid yR
  clear yR hb3 HB2 HY2 HR2
  generalize w2.alloc (.cells #[.int .u8 C1, .int .i32 V1] 32) = w3 at *
  generalize w2.heap.size = g2 at *
  have y0 := HY3.out.c0
  have y1 := HY3.out.c1
  have HA := Lib.hid (applyAny w3 K 5 none 0 0 [] 2 x (ints_none _ _) (by omega))
  go_wp2_with fail
  refine HA.out.mono ?_
  rintro e w4 ⟨v4, rfl, t4, _, b4⟩
  rw [HE2.out.1] at t4
  rw [HE2.out.2.1, HE2.out.2.2]
  obtain ⟨a4, p4, rfl, rd4, _⟩ := tailReads t4
  have HB4 := Lib.hid (HB3.out.trans (b4.mono HB3.out.size))
  have HX4 := Lib.hid (HX3.out.keep b4)
  have HR4 := Lib.hid (HR3.out.keep b4)
  clear t4 b4 rd4 HA HY3 HB3 HX3 HR3 y0 y1
  rw [h4]
  go_upto_region 9 with (fail)
  have yR := RBox.new w4 4 0
  have hb5 : Below w4.heap.size w4 (w4.alloc (.cells #[.int .u8 4, .int .i32 0] 32)) := (Below.refl _ _).alloc (Nat.le_refl _) _
  have HB5 := Lib.hid (HB4.out.trans (hb5.mono HB4.out.size))
  have HX5 := Lib.hid (HX4.out.keep hb5)
  have HR5 := Lib.hid (HR4.out.keep hb5)
  have HX6 := Lib.hid yR
  clear yR hb5 HB4 HX4 HR4
  generalize w4.alloc (.cells #[.int .u8 4, .int .i32 0] 32) = w5 at *
  generalize w4.heap.size = g4 at *
  go_wp2_with fail
  refine (known _).mono ?_
  rintro e w7 ⟨rfl, b7⟩
  have HB7 := Lib.hid (HB5.out.trans (b7.mono HB5.out.size))
  have HX7 := Lib.hid (And.intro (HX5.out.keep b7) (HX6.out.keep b7))
  have HR7 := Lib.hid (HR5.out.keep b7)
  clear b7 HB5 HX5 HX6 HR5
  have x0 := HX7.out.1.c0
  have x1 := HX7.out.1.c1
  have x2 := HX7.out.2.c0
  have x3 := HX7.out.2.c1
  go_wp2
  go_ret
  exact ⟨rfl, HB7.out⟩

set_option maxRecDepth 100000 in
set_option maxHeartbeats 16000000 in
theorem fullWay2FS {w : World} (obj : Int) (ao : Option Addr) (n cap : Nat) (zs : List Int) (k0 x more K q3 mr M N : Int) (hz : Reads .i32 w ao n zs) (hn : n ≤ 100)
    (c1 : obj.tmod 3 = q3) (c2 : IntKind.u8.wrap q3 = q3) (c3 : IntKind.u8.wrap (1 + q3) = K) (d1 : k0.tmod 4 = 1)
    (m1 : more.tmod 3 = mr) (m2 : IntKind.u8.wrap mr = mr) (m3 : IntKind.i64.wrap mr = mr) (m4 : IntKind.i64.wrap ((n : Int) - mr) = M) (m5 : (if 0 < M then M else 0) = N)
    (_ : (K == 2) = false) (_ : ¬ K = 2) (V1 : Int) (Z1 Z2 : List Int) (hL1 : objL K (mostOf N) zs 2 x = Z1) (hC1 : objC K (mostOf N) zs 2 = 2) (hV1 : objV K zs 2 = V1) (hL2 : objL K (mostOf 5) [] 2 x = Z2) (hC2 : objC K (mostOf 5) [] 2 = 4) (hV2 : objV K [] 2 = 0) (h0 : ¬ n = 0) (h2 : Z1.length = n - 1) (h4 : Z2.length = 0) :
    Calls Try.prog 8 #[.int .u8 obj, .slice ao n cap, .agg #[.int .u8 k0, .int .i32 x], .int .u8 more] w fun e w' => e = .returned (.bool true) ∧ Below w.heap.size w w' := by
  have hq := eqSelf
  have HZ := Lib.hid hz
  have hnl := hz.1
  have HM := Lib.hid (And.intro c1 (And.intro c2 c3))
  have HMM := Lib.hid (And.intro c3 (And.intro d1 (And.intro m1 (And.intro m2 (And.intro m3 (And.intro m4 m5))))))
  have HE1 := Lib.hid (And.intro hL1 (And.intro hC1 hV1))
  have HE2 := Lib.hid (And.intro hL2 (And.intro hC2 hV2))
  have k1 : IntKind.i64.wrap ((n : Int) - 1) = ((n - 1 : Nat) : Int) := by rw [IntKind.wrap_i64]; omega
  have k2 : (n : Int) - 1 = ((n - 1 : Nat) : Int) := by omega
  have k3 : ((n : Int) == 0) = false := by simpa using h0
  have k4 : IntKind.i64.wrap ((n - 1 : Nat) : Int) = ((n - 1 : Nat) : Int) := by rw [IntKind.wrap_i64]; omega
  clear hL1 hC1 hV1 hL2 hC2 hV2
  clear hz
  go_enter Try.func8, Try.ntmps8
  go_upto_region 4 with (fail)
  have yW := OBox.new w k0 x
  have hbW : Below w.heap.size w (w.alloc (.cells #[.int .u8 k0, .int .i32 x] 36)) := (Below.refl _ _).alloc (Nat.le_refl _) _
  have HBW := Lib.hid hbW
  clear hbW c1 c2
  generalize w.alloc (.cells #[.int .u8 k0, .int .i32 x] 36) = W at *
  generalize hg : w.heap.size = g at *
  have y0 := yW.c0
  have yf := yW.f
  have HY := Lib.hid yW
  go_upto_region 5 with (fail)
  have yW := HY.out.set0 2
  have HBW := Lib.hid (HBW.out.setCell (p := ⟨g, 0, none⟩) (by simp) (.int .u8 2))
  clear y0 yf HY d1
  generalize W.setCell ⟨g, 0, none⟩ (.int .u8 2) = W at *
  have y0 := yW.c0
  have y1 := yW.c1
  have HY := Lib.hid yW
  clear yW
  have HA := Lib.hid (applyAny W K N ao n cap zs 2 x (HZ.out.keep (by rw [hg]; exact HBW.out)) (by omega))
  have HBW := Lib.hid (show Below w.heap.size w W by rw [hg]; exact HBW.out)
  clear hg
  go_wp2_with fail
  refine HA.out.mono ?_
  rintro e w2 ⟨v2, rfl, t2, _, b2⟩
  rw [HE1.out.1] at t2
  rw [HE1.out.2.1, HE1.out.2.2]
  obtain ⟨a2, p2, rfl, rd2, _⟩ := tailReads t2
  have HB2 := Lib.hid (HBW.out.trans (b2.mono HBW.out.size))
  have HY2 := Lib.hid (HY.out.keep b2)
  have HR2 := Lib.hid rd2
  clear t2 b2 rd2 HA HY HBW y0 y1 m1 m2 m3 m4 m5 c3
  go_upto_region 8 with (fail)
  have yR := RBox.new w2 2 V1
  have hb3 : Below w2.heap.size w2 (w2.alloc (.cells #[.int .u8 2, .int .i32 V1] 32)) := (Below.refl _ _).alloc (Nat.le_refl _) _
  have HB3 := Lib.hid (HB2.out.trans (hb3.mono HB2.out.size))
  have HY3 := Lib.hid (HY2.out.keep hb3)
  have HR3 := Lib.hid (HR2.out.keep hb3)
  have HX3 := Lib.hid yR
  clear yR hb3 HB2 HY2 HR2
  generalize w2.alloc (.cells #[.int .u8 2, .int .i32 V1] 32) = w3 at *
  generalize w2.heap.size = g2 at *
  have y0 := HY3.out.c0
  have y1 := HY3.out.c1
  have HA := Lib.hid (applyAny w3 K 5 none 0 0 [] 2 x (ints_none _ _) (by omega))
  go_wp2_with fail
  refine HA.out.mono ?_
  rintro e w4 ⟨v4, rfl, t4, _, b4⟩
  rw [HE2.out.1] at t4
  rw [HE2.out.2.1, HE2.out.2.2]
  obtain ⟨a4, p4, rfl, rd4, _⟩ := tailReads t4
  have HB4 := Lib.hid (HB3.out.trans (b4.mono HB3.out.size))
  have HX4 := Lib.hid (HX3.out.keep b4)
  have HR4 := Lib.hid (HR3.out.keep b4)
  clear t4 b4 rd4 HA HY3 HB3 HX3 HR3 y0 y1
  rw [h4]
  go_upto_region 9 with (fail)
  have yR := RBox.new w4 4 0
  have hb5 : Below w4.heap.size w4 (w4.alloc (.cells #[.int .u8 4, .int .i32 0] 32)) := (Below.refl _ _).alloc (Nat.le_refl _) _
  have HB5 := Lib.hid (HB4.out.trans (hb5.mono HB4.out.size))
  have HX5 := Lib.hid (HX4.out.keep hb5)
  have HR5 := Lib.hid (HR4.out.keep hb5)
  have HX6 := Lib.hid yR
  clear yR hb5 HB4 HX4 HR4
  generalize w4.alloc (.cells #[.int .u8 4, .int .i32 0] 32) = w5 at *
  generalize w4.heap.size = g4 at *
  go_wp2_with fail
  refine (known _).mono ?_
  rintro e w7 ⟨rfl, b7⟩
  have HB7 := Lib.hid (HB5.out.trans (b7.mono HB5.out.size))
  have HX7 := Lib.hid (And.intro (HX5.out.keep b7) (HX6.out.keep b7))
  have HR7 := Lib.hid (HR5.out.keep b7)
  clear b7 HB5 HX5 HX6 HR5
  have x0 := HX7.out.1.c0
  have x1 := HX7.out.1.c1
  have x2 := HX7.out.2.c0
  have x3 := HX7.out.2.c1
  go_wp2
  go_ret
  exact ⟨rfl, HB7.out⟩

set_option maxRecDepth 100000 in
set_option maxHeartbeats 16000000 in
theorem fullWay3TN {w : World} (obj : Int) (ao : Option Addr) (n cap : Nat) (zs : List Int) (k0 x more q3 mr M N : Int) (hz : Reads .i32 w ao n zs) (hn : n ≤ 100)
    (c1 : obj.tmod 3 = q3) (c2 : IntKind.u8.wrap q3 = q3) (c3 : IntKind.u8.wrap (1 + q3) = 2) (d1 : k0.tmod 4 = 2)
    (m1 : more.tmod 3 = mr) (m2 : IntKind.u8.wrap mr = mr) (m3 : IntKind.i64.wrap mr = mr) (m4 : IntKind.i64.wrap ((n : Int) - mr) = M) (m5 : (if 0 < M then M else 0) = N)
    (C1 V1 : Int) (Z1 Z2 : List Int) (hL1 : objL 2 (mostOf N) zs 3 x = Z1) (hC1 : objC 2 (mostOf N) zs 3 = C1) (hV1 : objV 2 zs 3 = V1) (hL2 : objL 2 (mostOf 5) [] 3 x = Z2) (hC2 : objC 2 (mostOf 5) [] 3 = 4) (hV2 : objV 2 [] 3 = 0) (h0 : n = 0) (h4 : Z2.length = 0) :
    Calls Try.prog 8 #[.int .u8 obj, .slice ao n cap, .agg #[.int .u8 k0, .int .i32 x], .int .u8 more] w fun e w' => e = .returned (.bool true) ∧ Below w.heap.size w w' := by
  have hq := eqSelf
  have HZ := Lib.hid hz
  have hnl := hz.1
  have HM := Lib.hid (And.intro c1 (And.intro c2 c3))
  have HMM := Lib.hid (And.intro c3 (And.intro d1 (And.intro m1 (And.intro m2 (And.intro m3 (And.intro m4 m5))))))
  have HE1 := Lib.hid (And.intro hL1 (And.intro hC1 hV1))
  have HE2 := Lib.hid (And.intro hL2 (And.intro hC2 hV2))
  have k3 : ((n : Int) == 0) = true := by simpa using h0
  clear h0
  clear hL1 hC1 hV1 hL2 hC2 hV2
  clear hz
  go_enter Try.func8, Try.ntmps8
  go_upto_region 4 with (fail)
  have yW := OBox.new w k0 x
  have hbW : Below w.heap.size w (w.alloc (.cells #[.int .u8 k0, .int .i32 x] 36)) := (Below.refl _ _).alloc (Nat.le_refl _) _
  have HBW := Lib.hid hbW
  clear hbW c1 c2
  generalize w.alloc (.cells #[.int .u8 k0, .int .i32 x] 36) = W at *
  generalize hg : w.heap.size = g at *
  have y0 := yW.c0
  have yf := yW.f
  have HY := Lib.hid yW
  go_upto_region 5 with (fail)
  have yW := HY.out.set0 3
  have HBW := Lib.hid (HBW.out.setCell (p := ⟨g, 0, none⟩) (by simp) (.int .u8 3))
  clear y0 yf HY d1
  generalize W.setCell ⟨g, 0, none⟩ (.int .u8 3) = W at *
  have y0 := yW.c0
  have y1 := yW.c1
  have HY := Lib.hid yW
  clear yW
  have HA := Lib.hid (applyAny W 2 N ao n cap zs 3 x (HZ.out.keep (by rw [hg]; exact HBW.out)) (by omega))
  have HBW := Lib.hid (show Below w.heap.size w W by rw [hg]; exact HBW.out)
  clear hg
  go_wp2_with fail
  refine HA.out.mono ?_
  rintro e w2 ⟨v2, rfl, t2, _, b2⟩
  rw [HE1.out.1] at t2
  rw [HE1.out.2.1, HE1.out.2.2]
  obtain ⟨a2, p2, rfl, rd2, _⟩ := tailReads t2
  have HB2 := Lib.hid (HBW.out.trans (b2.mono HBW.out.size))
  have HY2 := Lib.hid (HY.out.keep b2)
  have HR2 := Lib.hid rd2
  clear t2 b2 rd2 HA HY HBW y0 y1 m1 m2 m3 m4 m5 c3
  go_upto_region 8 with (fail)
  have yR := RBox.new w2 C1 V1
  have hb3 : Below w2.heap.size w2 (w2.alloc (.cells #[.int .u8 C1, .int .i32 V1] 32)) := (Below.refl _ _).alloc (Nat.le_refl _) _
  have HB3 := Lib.hid (HB2.out.trans (hb3.mono HB2.out.size))
  have HY3 := Lib.hid (HY2.out.keep hb3)
  have HR3 := Lib.hid (HR2.out.keep hb3)
  have HX3 := Lib.hid yR
  clear yR hb3 HB2 HY2 HR2
  generalize w2.alloc (.cells #[.int .u8 C1, .int .i32 V1] 32) = w3 at *
  generalize w2.heap.size = g2 at *
  have y0 := HY3.out.c0
  have y1 := HY3.out.c1
  have HA := Lib.hid (applyAny w3 2 5 none 0 0 [] 3 x (ints_none _ _) (by omega))
  go_wp2_with fail
  refine HA.out.mono ?_
  rintro e w4 ⟨v4, rfl, t4, _, b4⟩
  rw [HE2.out.1] at t4
  rw [HE2.out.2.1, HE2.out.2.2]
  obtain ⟨a4, p4, rfl, rd4, _⟩ := tailReads t4
  have HB4 := Lib.hid (HB3.out.trans (b4.mono HB3.out.size))
  have HX4 := Lib.hid (HX3.out.keep b4)
  have HR4 := Lib.hid (HR3.out.keep b4)
  clear t4 b4 rd4 HA HY3 HB3 HX3 HR3 y0 y1
  rw [h4]
  go_upto_region 9 with (fail)
  have yR := RBox.new w4 4 0
  have hb5 : Below w4.heap.size w4 (w4.alloc (.cells #[.int .u8 4, .int .i32 0] 32)) := (Below.refl _ _).alloc (Nat.le_refl _) _
  have HB5 := Lib.hid (HB4.out.trans (hb5.mono HB4.out.size))
  have HX5 := Lib.hid (HX4.out.keep hb5)
  have HR5 := Lib.hid (HR4.out.keep hb5)
  have HX6 := Lib.hid yR
  clear yR hb5 HB4 HX4 HR4
  generalize w4.alloc (.cells #[.int .u8 4, .int .i32 0] 32) = w5 at *
  generalize w4.heap.size = g4 at *
  go_wp2_with fail
  refine (known _).mono ?_
  rintro e w7 ⟨rfl, b7⟩
  have HB7 := Lib.hid (HB5.out.trans (b7.mono HB5.out.size))
  have HX7 := Lib.hid (And.intro (HX5.out.keep b7) (HX6.out.keep b7))
  have HR7 := Lib.hid (HR5.out.keep b7)
  clear b7 HB5 HX5 HX6 HR5
  have x0 := HX7.out.1.c0
  have x1 := HX7.out.1.c1
  have x2 := HX7.out.2.c0
  have x3 := HX7.out.2.c1
  go_wp2
  go_ret
  exact ⟨rfl, HB7.out⟩

set_option maxRecDepth 100000 in
set_option maxHeartbeats 16000000 in
theorem fullWay3TS {w : World} (obj : Int) (ao : Option Addr) (n cap : Nat) (zs : List Int) (k0 x more q3 mr M N : Int) (hz : Reads .i32 w ao n zs) (hn : n ≤ 100)
    (c1 : obj.tmod 3 = q3) (c2 : IntKind.u8.wrap q3 = q3) (c3 : IntKind.u8.wrap (1 + q3) = 2) (d1 : k0.tmod 4 = 2)
    (m1 : more.tmod 3 = mr) (m2 : IntKind.u8.wrap mr = mr) (m3 : IntKind.i64.wrap mr = mr) (m4 : IntKind.i64.wrap ((n : Int) - mr) = M) (m5 : (if 0 < M then M else 0) = N)
    (V1 : Int) (Z1 Z2 : List Int) (hL1 : objL 2 (mostOf N) zs 3 x = Z1) (hC1 : objC 2 (mostOf N) zs 3 = 2) (hV1 : objV 2 zs 3 = V1) (hL2 : objL 2 (mostOf 5) [] 3 x = Z2) (hC2 : objC 2 (mostOf 5) [] 3 = 4) (hV2 : objV 2 [] 3 = 0) (h0 : ¬ n = 0) (h2 : Z1.length = n - 1) (h4 : Z2.length = 0) :
    Calls Try.prog 8 #[.int .u8 obj, .slice ao n cap, .agg #[.int .u8 k0, .int .i32 x], .int .u8 more] w fun e w' => e = .returned (.bool true) ∧ Below w.heap.size w w' := by
  have hq := eqSelf
  have HZ := Lib.hid hz
  have hnl := hz.1
  have HM := Lib.hid (And.intro c1 (And.intro c2 c3))
  have HMM := Lib.hid (And.intro c3 (And.intro d1 (And.intro m1 (And.intro m2 (And.intro m3 (And.intro m4 m5))))))
  have HE1 := Lib.hid (And.intro hL1 (And.intro hC1 hV1))
  have HE2 := Lib.hid (And.intro hL2 (And.intro hC2 hV2))
  have k1 : IntKind.i64.wrap ((n : Int) - 1) = ((n - 1 : Nat) : Int) := by rw [IntKind.wrap_i64]; omega
  have k2 : (n : Int) - 1 = ((n - 1 : Nat) : Int) := by omega
  have k3 : ((n : Int) == 0) = false := by simpa using h0
  have k4 : IntKind.i64.wrap ((n - 1 : Nat) : Int) = ((n - 1 : Nat) : Int) := by rw [IntKind.wrap_i64]; omega
  clear hL1 hC1 hV1 hL2 hC2 hV2
  clear hz
  go_enter Try.func8, Try.ntmps8
  go_upto_region 4 with (fail)
  have yW := OBox.new w k0 x
  have hbW : Below w.heap.size w (w.alloc (.cells #[.int .u8 k0, .int .i32 x] 36)) := (Below.refl _ _).alloc (Nat.le_refl _) _
  have HBW := Lib.hid hbW
  clear hbW c1 c2
  generalize w.alloc (.cells #[.int .u8 k0, .int .i32 x] 36) = W at *
  generalize hg : w.heap.size = g at *
  have y0 := yW.c0
  have yf := yW.f
  have HY := Lib.hid yW
  go_upto_region 5 with (fail)
  have yW := HY.out.set0 3
  have HBW := Lib.hid (HBW.out.setCell (p := ⟨g, 0, none⟩) (by simp) (.int .u8 3))
  clear y0 yf HY d1
  generalize W.setCell ⟨g, 0, none⟩ (.int .u8 3) = W at *
  have y0 := yW.c0
  have y1 := yW.c1
  have HY := Lib.hid yW
  clear yW
  have HA := Lib.hid (applyAny W 2 N ao n cap zs 3 x (HZ.out.keep (by rw [hg]; exact HBW.out)) (by omega))
  have HBW := Lib.hid (show Below w.heap.size w W by rw [hg]; exact HBW.out)
  clear hg
  go_wp2_with fail
  refine HA.out.mono ?_
  rintro e w2 ⟨v2, rfl, t2, _, b2⟩
  rw [HE1.out.1] at t2
  rw [HE1.out.2.1, HE1.out.2.2]
  obtain ⟨a2, p2, rfl, rd2, _⟩ := tailReads t2
  have HB2 := Lib.hid (HBW.out.trans (b2.mono HBW.out.size))
  have HY2 := Lib.hid (HY.out.keep b2)
  have HR2 := Lib.hid rd2
  clear t2 b2 rd2 HA HY HBW y0 y1 m1 m2 m3 m4 m5 c3
  go_upto_region 8 with (fail)
  have yR := RBox.new w2 2 V1
  have hb3 : Below w2.heap.size w2 (w2.alloc (.cells #[.int .u8 2, .int .i32 V1] 32)) := (Below.refl _ _).alloc (Nat.le_refl _) _
  have HB3 := Lib.hid (HB2.out.trans (hb3.mono HB2.out.size))
  have HY3 := Lib.hid (HY2.out.keep hb3)
  have HR3 := Lib.hid (HR2.out.keep hb3)
  have HX3 := Lib.hid yR
  clear yR hb3 HB2 HY2 HR2
  generalize w2.alloc (.cells #[.int .u8 2, .int .i32 V1] 32) = w3 at *
  generalize w2.heap.size = g2 at *
  have y0 := HY3.out.c0
  have y1 := HY3.out.c1
  have HA := Lib.hid (applyAny w3 2 5 none 0 0 [] 3 x (ints_none _ _) (by omega))
  go_wp2_with fail
  refine HA.out.mono ?_
  rintro e w4 ⟨v4, rfl, t4, _, b4⟩
  rw [HE2.out.1] at t4
  rw [HE2.out.2.1, HE2.out.2.2]
  obtain ⟨a4, p4, rfl, rd4, _⟩ := tailReads t4
  have HB4 := Lib.hid (HB3.out.trans (b4.mono HB3.out.size))
  have HX4 := Lib.hid (HX3.out.keep b4)
  have HR4 := Lib.hid (HR3.out.keep b4)
  clear t4 b4 rd4 HA HY3 HB3 HX3 HR3 y0 y1
  rw [h4]
  go_upto_region 9 with (fail)
  have yR := RBox.new w4 4 0
  have hb5 : Below w4.heap.size w4 (w4.alloc (.cells #[.int .u8 4, .int .i32 0] 32)) := (Below.refl _ _).alloc (Nat.le_refl _) _
  have HB5 := Lib.hid (HB4.out.trans (hb5.mono HB4.out.size))
  have HX5 := Lib.hid (HX4.out.keep hb5)
  have HR5 := Lib.hid (HR4.out.keep hb5)
  have HX6 := Lib.hid yR
  clear yR hb5 HB4 HX4 HR4
  generalize w4.alloc (.cells #[.int .u8 4, .int .i32 0] 32) = w5 at *
  generalize w4.heap.size = g4 at *
  go_wp2_with fail
  refine (known _).mono ?_
  rintro e w7 ⟨rfl, b7⟩
  have HB7 := Lib.hid (HB5.out.trans (b7.mono HB5.out.size))
  have HX7 := Lib.hid (And.intro (HX5.out.keep b7) (HX6.out.keep b7))
  have HR7 := Lib.hid (HR5.out.keep b7)
  clear b7 HB5 HX5 HX6 HR5
  have x0 := HX7.out.1.c0
  have x1 := HX7.out.1.c1
  have x2 := HX7.out.2.c0
  have x3 := HX7.out.2.c1
  go_wp2
  go_ret
  exact ⟨rfl, HB7.out⟩

set_option maxRecDepth 100000 in
set_option maxHeartbeats 16000000 in
theorem fullWay3F {w : World} (obj : Int) (ao : Option Addr) (n cap : Nat) (zs : List Int) (k0 x more K q3 mr M N : Int) (hz : Reads .i32 w ao n zs) (hn : n ≤ 100)
    (c1 : obj.tmod 3 = q3) (c2 : IntKind.u8.wrap q3 = q3) (c3 : IntKind.u8.wrap (1 + q3) = K) (d1 : k0.tmod 4 = 2)
    (m1 : more.tmod 3 = mr) (m2 : IntKind.u8.wrap mr = mr) (m3 : IntKind.i64.wrap mr = mr) (m4 : IntKind.i64.wrap ((n : Int) - mr) = M) (m5 : (if 0 < M then M else 0) = N)
    (_ : (K == 2) = false) (_ : ¬ K = 2) (V1 V2 : Int) (Z1 Z2 : List Int) (hL1 : objL K (mostOf N) zs 3 x = Z1) (hC1 : objC K (mostOf N) zs 3 = 5) (hV1 : objV K zs 3 = V1) (hL2 : objL K (mostOf 5) [] 3 x = Z2) (hC2 : objC K (mostOf 5) [] 3 = 5) (hV2 : objV K [] 3 = V2) (hZ : Z1 = zs) :
    Calls Try.prog 8 #[.int .u8 obj, .slice ao n cap, .agg #[.int .u8 k0, .int .i32 x], .int .u8 more] w fun e w' => e = .returned (.bool true) ∧ Below w.heap.size w w' := by
  have hq := eqSelf
  have HZ := Lib.hid hz
  have hnl := hz.1
  have HM := Lib.hid (And.intro c1 (And.intro c2 c3))
  have HMM := Lib.hid (And.intro c3 (And.intro d1 (And.intro m1 (And.intro m2 (And.intro m3 (And.intro m4 m5))))))
  have HE1 := Lib.hid (And.intro hL1 (And.intro hC1 hV1))
  have HE2 := Lib.hid (And.intro hL2 (And.intro hC2 hV2))
  have HE0 := Lib.hid (And.intro hZ (show zs.length = n from hnl))
  clear hL1 hC1 hV1 hL2 hC2 hV2
  clear hz
  go_enter Try.func8, Try.ntmps8
  go_upto_region 4 with (fail)
  have yW := OBox.new w k0 x
  have hbW : Below w.heap.size w (w.alloc (.cells #[.int .u8 k0, .int .i32 x] 36)) := (Below.refl _ _).alloc (Nat.le_refl _) _
  have HBW := Lib.hid hbW
  clear hbW c1 c2
  generalize w.alloc (.cells #[.int .u8 k0, .int .i32 x] 36) = W at *
  generalize hg : w.heap.size = g at *
  have y0 := yW.c0
  have yf := yW.f
  have HY := Lib.hid yW
  go_upto_region 5 with (fail)
  have yW := HY.out.set0 3
  have HBW := Lib.hid (HBW.out.setCell (p := ⟨g, 0, none⟩) (by simp) (.int .u8 3))
  clear y0 yf HY d1
  generalize W.setCell ⟨g, 0, none⟩ (.int .u8 3) = W at *
  have y0 := yW.c0
  have y1 := yW.c1
  have HY := Lib.hid yW
  clear yW
  have HA := Lib.hid (applyAny W K N ao n cap zs 3 x (HZ.out.keep (by rw [hg]; exact HBW.out)) (by omega))
  have HBW := Lib.hid (show Below w.heap.size w W by rw [hg]; exact HBW.out)
  clear hg
  go_wp2_with fail
  refine HA.out.mono ?_
  rintro e w2 ⟨v2, rfl, t2, _, b2⟩
  rw [HE1.out.1] at t2
  rw [HE1.out.2.1, HE1.out.2.2]
  obtain ⟨a2, p2, rfl, rd2, _⟩ := tailReads t2
  have HB2 := Lib.hid (HBW.out.trans (b2.mono HBW.out.size))
  have HY2 := Lib.hid (HY.out.keep b2)
  have HR2 := Lib.hid rd2
  clear t2 b2 rd2 HA HY HBW y0 y1 m1 m2 m3 m4 m5 c3
  go_upto_region 8 with (fail)
  have yR := RBox.new w2 5 V1
  have hb3 : Below w2.heap.size w2 (w2.alloc (.cells #[.int .u8 5, .int .i32 V1] 32)) := (Below.refl _ _).alloc (Nat.le_refl _) _
  have HB3 := Lib.hid (HB2.out.trans (hb3.mono HB2.out.size))
  have HY3 := Lib.hid (HY2.out.keep hb3)
  have HR3 := Lib.hid (HR2.out.keep hb3)
  have HX3 := Lib.hid yR
  clear yR hb3 HB2 HY2 HR2
  generalize w2.alloc (.cells #[.int .u8 5, .int .i32 V1] 32) = w3 at *
  generalize w2.heap.size = g2 at *
  have y0 := HY3.out.c0
  have y1 := HY3.out.c1
  have HA := Lib.hid (applyAny w3 K 5 none 0 0 [] 3 x (ints_none _ _) (by omega))
  go_wp2_with fail
  refine HA.out.mono ?_
  rintro e w4 ⟨v4, rfl, t4, _, b4⟩
  rw [HE2.out.1] at t4
  rw [HE2.out.2.1, HE2.out.2.2]
  obtain ⟨a4, p4, rfl, rd4, _⟩ := tailReads t4
  have HB4 := Lib.hid (HB3.out.trans (b4.mono HB3.out.size))
  have HX4 := Lib.hid (HX3.out.keep b4)
  have HR4 := Lib.hid (HR3.out.keep b4)
  clear t4 b4 rd4 HA HY3 HB3 HX3 HR3 y0 y1
  go_upto_region 9 with (fail)
  have yR := RBox.new w4 5 V2
  have hb5 : Below w4.heap.size w4 (w4.alloc (.cells #[.int .u8 5, .int .i32 V2] 32)) := (Below.refl _ _).alloc (Nat.le_refl _) _
  have HB5 := Lib.hid (HB4.out.trans (hb5.mono HB4.out.size))
  have HX5 := Lib.hid (HX4.out.keep hb5)
  have HR5 := Lib.hid (HR4.out.keep hb5)
  have HX6 := Lib.hid yR
  clear yR hb5 HB4 HX4 HR4
  generalize w4.alloc (.cells #[.int .u8 5, .int .i32 V2] 32) = w5 at *
  generalize w4.heap.size = g4 at *
  go_wp2_with fail
  refine (known _).mono ?_
  rintro e w7 ⟨rfl, b7⟩
  have HB7 := Lib.hid (HB5.out.trans (b7.mono HB5.out.size))
  have HX7 := Lib.hid (And.intro (HX5.out.keep b7) (HX6.out.keep b7))
  have HR7 := Lib.hid (HR5.out.keep b7)
  clear b7 HB5 HX5 HX6 HR5
  have x0 := HX7.out.1.c0
  have x1 := HX7.out.1.c1
  have x2 := HX7.out.2.c0
  have x3 := HX7.out.2.c1
  have HS := Lib.hid (sameEq w7 a2 ao n p2 cap zs (by have h := HR7.out; rw [HE0.out.1, HE0.out.2] at h; exact h) (HZ.out.keep HB7.out) (by omega))
  go_wp2_with fail
  refine HS.out.mono ?_
  rintro e w8 ⟨rfl, b8⟩
  have HB8 := Lib.hid (HB7.out.trans (b8.mono HB7.out.size))
  have z2 := (HX7.out.2.keep b8).c0
  have z3 := (HX7.out.2.keep b8).c1
  clear b8 HB7 x0 x1 x2 x3
  go_wp2
  go_ret
  exact ⟨rfl, HB8.out⟩

set_option maxRecDepth 100000 in
set_option maxHeartbeats 16000000 in
theorem fullWay4TN {w : World} (obj : Int) (ao : Option Addr) (n cap : Nat) (zs : List Int) (k0 x more q3 mr M N : Int) (hz : Reads .i32 w ao n zs) (hn : n ≤ 100)
    (c1 : obj.tmod 3 = q3) (c2 : IntKind.u8.wrap q3 = q3) (c3 : IntKind.u8.wrap (1 + q3) = 2) (d1 : k0.tmod 4 = 3)
    (m1 : more.tmod 3 = mr) (m2 : IntKind.u8.wrap mr = mr) (m3 : IntKind.i64.wrap mr = mr) (m4 : IntKind.i64.wrap ((n : Int) - mr) = M) (m5 : (if 0 < M then M else 0) = N)
    (C1 V1 : Int) (Z1 Z2 : List Int) (hL1 : objL 2 (mostOf N) zs 4 x = Z1) (hC1 : objC 2 (mostOf N) zs 4 = C1) (hV1 : objV 2 zs 4 = V1) (hL2 : objL 2 (mostOf 5) [] 4 x = Z2) (hC2 : objC 2 (mostOf 5) [] 4 = 4) (hV2 : objV 2 [] 4 = 0) (h0 : n = 0) (h4 : Z2.length = 0) :
    Calls Try.prog 8 #[.int .u8 obj, .slice ao n cap, .agg #[.int .u8 k0, .int .i32 x], .int .u8 more] w fun e w' => e = .returned (.bool true) ∧ Below w.heap.size w w' := by
  have hq := eqSelf
  have HZ := Lib.hid hz
  have hnl := hz.1
  have HM := Lib.hid (And.intro c1 (And.intro c2 c3))
  have HMM := Lib.hid (And.intro c3 (And.intro d1 (And.intro m1 (And.intro m2 (And.intro m3 (And.intro m4 m5))))))
  have HE1 := Lib.hid (And.intro hL1 (And.intro hC1 hV1))
  have HE2 := Lib.hid (And.intro hL2 (And.intro hC2 hV2))
  have k3 : ((n : Int) == 0) = true := by simpa using h0
  clear h0
  clear hL1 hC1 hV1 hL2 hC2 hV2
  clear hz
  go_enter Try.func8, Try.ntmps8
  go_upto_region 4 with (fail)
  have yW := OBox.new w k0 x
  have hbW : Below w.heap.size w (w.alloc (.cells #[.int .u8 k0, .int .i32 x] 36)) := (Below.refl _ _).alloc (Nat.le_refl _) _
  have HBW := Lib.hid hbW
  clear hbW c1 c2
  generalize w.alloc (.cells #[.int .u8 k0, .int .i32 x] 36) = W at *
  generalize hg : w.heap.size = g at *
  have y0 := yW.c0
  have yf := yW.f
  have HY := Lib.hid yW
  go_upto_region 5 with (fail)
  have yW := HY.out.set0 4
  have HBW := Lib.hid (HBW.out.setCell (p := ⟨g, 0, none⟩) (by simp) (.int .u8 4))
  clear y0 yf HY d1
  generalize W.setCell ⟨g, 0, none⟩ (.int .u8 4) = W at *
  have y0 := yW.c0
  have y1 := yW.c1
  have HY := Lib.hid yW
  clear yW
  have HA := Lib.hid (applyAny W 2 N ao n cap zs 4 x (HZ.out.keep (by rw [hg]; exact HBW.out)) (by omega))
  have HBW := Lib.hid (show Below w.heap.size w W by rw [hg]; exact HBW.out)
  clear hg
  go_wp2_with fail
  refine HA.out.mono ?_
  rintro e w2 ⟨v2, rfl, t2, _, b2⟩
  rw [HE1.out.1] at t2
  rw [HE1.out.2.1, HE1.out.2.2]
  obtain ⟨a2, p2, rfl, rd2, _⟩ := tailReads t2
  have HB2 := Lib.hid (HBW.out.trans (b2.mono HBW.out.size))
  have HY2 := Lib.hid (HY.out.keep b2)
  have HR2 := Lib.hid rd2
  clear t2 b2 rd2 HA HY HBW y0 y1 m1 m2 m3 m4 m5 c3
  go_upto_region 8 with (fail)
  have yR := RBox.new w2 C1 V1
  have hb3 : Below w2.heap.size w2 (w2.alloc (.cells #[.int .u8 C1, .int .i32 V1] 32)) := (Below.refl _ _).alloc (Nat.le_refl _) _
  have HB3 := Lib.hid (HB2.out.trans (hb3.mono HB2.out.size))
  have HY3 := Lib.hid (HY2.out.keep hb3)
  have HR3 := Lib.hid (HR2.out.keep hb3)
  have HX3 := Lib.hid yR
  clear yR hb3 HB2 HY2 HR2
  generalize w2.alloc (.cells #[.int .u8 C1, .int .i32 V1] 32) = w3 at *
  generalize w2.heap.size = g2 at *
  have y0 := HY3.out.c0
  have y1 := HY3.out.c1
  have HA := Lib.hid (applyAny w3 2 5 none 0 0 [] 4 x (ints_none _ _) (by omega))
  go_wp2_with fail
  refine HA.out.mono ?_
  rintro e w4 ⟨v4, rfl, t4, _, b4⟩
  rw [HE2.out.1] at t4
  rw [HE2.out.2.1, HE2.out.2.2]
  obtain ⟨a4, p4, rfl, rd4, _⟩ := tailReads t4
  have HB4 := Lib.hid (HB3.out.trans (b4.mono HB3.out.size))
  have HX4 := Lib.hid (HX3.out.keep b4)
  have HR4 := Lib.hid (HR3.out.keep b4)
  clear t4 b4 rd4 HA HY3 HB3 HX3 HR3 y0 y1
  rw [h4]
  go_upto_region 9 with (fail)
  have yR := RBox.new w4 4 0
  have hb5 : Below w4.heap.size w4 (w4.alloc (.cells #[.int .u8 4, .int .i32 0] 32)) := (Below.refl _ _).alloc (Nat.le_refl _) _
  have HB5 := Lib.hid (HB4.out.trans (hb5.mono HB4.out.size))
  have HX5 := Lib.hid (HX4.out.keep hb5)
  have HR5 := Lib.hid (HR4.out.keep hb5)
  have HX6 := Lib.hid yR
  clear yR hb5 HB4 HX4 HR4
  generalize w4.alloc (.cells #[.int .u8 4, .int .i32 0] 32) = w5 at *
  generalize w4.heap.size = g4 at *
  go_wp2_with fail
  refine (known _).mono ?_
  rintro e w7 ⟨rfl, b7⟩
  have HB7 := Lib.hid (HB5.out.trans (b7.mono HB5.out.size))
  have HX7 := Lib.hid (And.intro (HX5.out.keep b7) (HX6.out.keep b7))
  have HR7 := Lib.hid (HR5.out.keep b7)
  clear b7 HB5 HX5 HX6 HR5
  have x0 := HX7.out.1.c0
  have x1 := HX7.out.1.c1
  have x2 := HX7.out.2.c0
  have x3 := HX7.out.2.c1
  go_wp2
  go_ret
  exact ⟨rfl, HB7.out⟩

set_option maxRecDepth 100000 in
set_option maxHeartbeats 16000000 in
theorem fullWay4TS {w : World} (obj : Int) (ao : Option Addr) (n cap : Nat) (zs : List Int) (k0 x more q3 mr M N : Int) (hz : Reads .i32 w ao n zs) (hn : n ≤ 100)
    (c1 : obj.tmod 3 = q3) (c2 : IntKind.u8.wrap q3 = q3) (c3 : IntKind.u8.wrap (1 + q3) = 2) (d1 : k0.tmod 4 = 3)
    (m1 : more.tmod 3 = mr) (m2 : IntKind.u8.wrap mr = mr) (m3 : IntKind.i64.wrap mr = mr) (m4 : IntKind.i64.wrap ((n : Int) - mr) = M) (m5 : (if 0 < M then M else 0) = N)
    (V1 : Int) (Z1 Z2 : List Int) (hL1 : objL 2 (mostOf N) zs 4 x = Z1) (hC1 : objC 2 (mostOf N) zs 4 = 2) (hV1 : objV 2 zs 4 = V1) (hL2 : objL 2 (mostOf 5) [] 4 x = Z2) (hC2 : objC 2 (mostOf 5) [] 4 = 4) (hV2 : objV 2 [] 4 = 0) (h0 : ¬ n = 0) (h2 : Z1.length = n - 1) (h4 : Z2.length = 0) :
    Calls Try.prog 8 #[.int .u8 obj, .slice ao n cap, .agg #[.int .u8 k0, .int .i32 x], .int .u8 more] w fun e w' => e = .returned (.bool true) ∧ Below w.heap.size w w' := by
  have hq := eqSelf
  have HZ := Lib.hid hz
  have hnl := hz.1
  have HM := Lib.hid (And.intro c1 (And.intro c2 c3))
  have HMM := Lib.hid (And.intro c3 (And.intro d1 (And.intro m1 (And.intro m2 (And.intro m3 (And.intro m4 m5))))))
  have HE1 := Lib.hid (And.intro hL1 (And.intro hC1 hV1))
  have HE2 := Lib.hid (And.intro hL2 (And.intro hC2 hV2))
  have k1 : IntKind.i64.wrap ((n : Int) - 1) = ((n - 1 : Nat) : Int) := by rw [IntKind.wrap_i64]; omega
  have k2 : (n : Int) - 1 = ((n - 1 : Nat) : Int) := by omega
  have k3 : ((n : Int) == 0) = false := by simpa using h0
  have k4 : IntKind.i64.wrap ((n - 1 : Nat) : Int) = ((n - 1 : Nat) : Int) := by rw [IntKind.wrap_i64]; omega
  clear hL1 hC1 hV1 hL2 hC2 hV2
  clear hz
  go_enter Try.func8, Try.ntmps8
  go_upto_region 4 with (fail)
  have yW := OBox.new w k0 x
  have hbW : Below w.heap.size w (w.alloc (.cells #[.int .u8 k0, .int .i32 x] 36)) := (Below.refl _ _).alloc (Nat.le_refl _) _
  have HBW := Lib.hid hbW
  clear hbW c1 c2
  generalize w.alloc (.cells #[.int .u8 k0, .int .i32 x] 36) = W at *
  generalize hg : w.heap.size = g at *
  have y0 := yW.c0
  have yf := yW.f
  have HY := Lib.hid yW
  go_upto_region 5 with (fail)
  have yW := HY.out.set0 4
  have HBW := Lib.hid (HBW.out.setCell (p := ⟨g, 0, none⟩) (by simp) (.int .u8 4))
  clear y0 yf HY d1
  generalize W.setCell ⟨g, 0, none⟩ (.int .u8 4) = W at *
  have y0 := yW.c0
  have y1 := yW.c1
  have HY := Lib.hid yW
  clear yW
  have HA := Lib.hid (applyAny W 2 N ao n cap zs 4 x (HZ.out.keep (by rw [hg]; exact HBW.out)) (by omega))
  have HBW := Lib.hid (show Below w.heap.size w W by rw [hg]; exact HBW.out)
  clear hg
  go_wp2_with fail
  refine HA.out.mono ?_
  rintro e w2 ⟨v2, rfl, t2, _, b2⟩
  rw [HE1.out.1] at t2
  rw [HE1.out.2.1, HE1.out.2.2]
  obtain ⟨a2, p2, rfl, rd2, _⟩ := tailReads t2
  have HB2 := Lib.hid (HBW.out.trans (b2.mono HBW.out.size))
  have HY2 := Lib.hid (HY.out.keep b2)
  have HR2 := Lib.hid rd2
  clear t2 b2 rd2 HA HY HBW y0 y1 m1 m2 m3 m4 m5 c3
  go_upto_region 8 with (fail)
  have yR := RBox.new w2 2 V1
  have hb3 : Below w2.heap.size w2 (w2.alloc (.cells #[.int .u8 2, .int .i32 V1] 32)) := (Below.refl _ _).alloc (Nat.le_refl _) _
  have HB3 := Lib.hid (HB2.out.trans (hb3.mono HB2.out.size))
  have HY3 := Lib.hid (HY2.out.keep hb3)
  have HR3 := Lib.hid (HR2.out.keep hb3)
  have HX3 := Lib.hid yR
  clear yR hb3 HB2 HY2 HR2
  generalize w2.alloc (.cells #[.int .u8 2, .int .i32 V1] 32) = w3 at *
  generalize w2.heap.size = g2 at *
  have y0 := HY3.out.c0
  have y1 := HY3.out.c1
  have HA := Lib.hid (applyAny w3 2 5 none 0 0 [] 4 x (ints_none _ _) (by omega))
  go_wp2_with fail
  refine HA.out.mono ?_
  rintro e w4 ⟨v4, rfl, t4, _, b4⟩
  rw [HE2.out.1] at t4
  rw [HE2.out.2.1, HE2.out.2.2]
  obtain ⟨a4, p4, rfl, rd4, _⟩ := tailReads t4
  have HB4 := Lib.hid (HB3.out.trans (b4.mono HB3.out.size))
  have HX4 := Lib.hid (HX3.out.keep b4)
  have HR4 := Lib.hid (HR3.out.keep b4)
  clear t4 b4 rd4 HA HY3 HB3 HX3 HR3 y0 y1
  rw [h4]
  go_upto_region 9 with (fail)
  have yR := RBox.new w4 4 0
  have hb5 : Below w4.heap.size w4 (w4.alloc (.cells #[.int .u8 4, .int .i32 0] 32)) := (Below.refl _ _).alloc (Nat.le_refl _) _
  have HB5 := Lib.hid (HB4.out.trans (hb5.mono HB4.out.size))
  have HX5 := Lib.hid (HX4.out.keep hb5)
  have HR5 := Lib.hid (HR4.out.keep hb5)
  have HX6 := Lib.hid yR
  clear yR hb5 HB4 HX4 HR4
  generalize w4.alloc (.cells #[.int .u8 4, .int .i32 0] 32) = w5 at *
  generalize w4.heap.size = g4 at *
  go_wp2_with fail
  refine (known _).mono ?_
  rintro e w7 ⟨rfl, b7⟩
  have HB7 := Lib.hid (HB5.out.trans (b7.mono HB5.out.size))
  have HX7 := Lib.hid (And.intro (HX5.out.keep b7) (HX6.out.keep b7))
  have HR7 := Lib.hid (HR5.out.keep b7)
  clear b7 HB5 HX5 HX6 HR5
  have x0 := HX7.out.1.c0
  have x1 := HX7.out.1.c1
  have x2 := HX7.out.2.c0
  have x3 := HX7.out.2.c1
  go_wp2
  go_ret
  exact ⟨rfl, HB7.out⟩

set_option maxRecDepth 100000 in
set_option maxHeartbeats 16000000 in
theorem fullWay4F {w : World} (obj : Int) (ao : Option Addr) (n cap : Nat) (zs : List Int) (k0 x more K q3 mr M N : Int) (hz : Reads .i32 w ao n zs) (hn : n ≤ 100)
    (c1 : obj.tmod 3 = q3) (c2 : IntKind.u8.wrap q3 = q3) (c3 : IntKind.u8.wrap (1 + q3) = K) (d1 : k0.tmod 4 = 3)
    (m1 : more.tmod 3 = mr) (m2 : IntKind.u8.wrap mr = mr) (m3 : IntKind.i64.wrap mr = mr) (m4 : IntKind.i64.wrap ((n : Int) - mr) = M) (m5 : (if 0 < M then M else 0) = N)
    (_ : (K == 2) = false) (_ : ¬ K = 2) (V1 V2 : Int) (Z1 Z2 : List Int) (hL1 : objL K (mostOf N) zs 4 x = Z1) (hC1 : objC K (mostOf N) zs 4 = 5) (hV1 : objV K zs 4 = V1) (hL2 : objL K (mostOf 5) [] 4 x = Z2) (hC2 : objC K (mostOf 5) [] 4 = 5) (hV2 : objV K [] 4 = V2) (hZ : Z1 = zs) :
    Calls Try.prog 8 #[.int .u8 obj, .slice ao n cap, .agg #[.int .u8 k0, .int .i32 x], .int .u8 more] w fun e w' => e = .returned (.bool true) ∧ Below w.heap.size w w' := by
  have hq := eqSelf
  have HZ := Lib.hid hz
  have hnl := hz.1
  have HM := Lib.hid (And.intro c1 (And.intro c2 c3))
  have HMM := Lib.hid (And.intro c3 (And.intro d1 (And.intro m1 (And.intro m2 (And.intro m3 (And.intro m4 m5))))))
  have HE1 := Lib.hid (And.intro hL1 (And.intro hC1 hV1))
  have HE2 := Lib.hid (And.intro hL2 (And.intro hC2 hV2))
  have HE0 := Lib.hid (And.intro hZ (show zs.length = n from hnl))
  clear hL1 hC1 hV1 hL2 hC2 hV2
  clear hz
  go_enter Try.func8, Try.ntmps8
  go_upto_region 4 with (fail)
  have yW := OBox.new w k0 x
  have hbW : Below w.heap.size w (w.alloc (.cells #[.int .u8 k0, .int .i32 x] 36)) := (Below.refl _ _).alloc (Nat.le_refl _) _
  have HBW := Lib.hid hbW
  clear hbW c1 c2
  generalize w.alloc (.cells #[.int .u8 k0, .int .i32 x] 36) = W at *
  generalize hg : w.heap.size = g at *
  have y0 := yW.c0
  have yf := yW.f
  have HY := Lib.hid yW
  go_upto_region 5 with (fail)
  have yW := HY.out.set0 4
  have HBW := Lib.hid (HBW.out.setCell (p := ⟨g, 0, none⟩) (by simp) (.int .u8 4))
  clear y0 yf HY d1
  generalize W.setCell ⟨g, 0, none⟩ (.int .u8 4) = W at *
  have y0 := yW.c0
  have y1 := yW.c1
  have HY := Lib.hid yW
  clear yW
  have HA := Lib.hid (applyAny W K N ao n cap zs 4 x (HZ.out.keep (by rw [hg]; exact HBW.out)) (by omega))
  have HBW := Lib.hid (show Below w.heap.size w W by rw [hg]; exact HBW.out)
  clear hg
  go_wp2_with fail
  refine HA.out.mono ?_
  rintro e w2 ⟨v2, rfl, t2, _, b2⟩
  rw [HE1.out.1] at t2
  rw [HE1.out.2.1, HE1.out.2.2]
  obtain ⟨a2, p2, rfl, rd2, _⟩ := tailReads t2
  have HB2 := Lib.hid (HBW.out.trans (b2.mono HBW.out.size))
  have HY2 := Lib.hid (HY.out.keep b2)
  have HR2 := Lib.hid rd2
  clear t2 b2 rd2 HA HY HBW y0 y1 m1 m2 m3 m4 m5 c3
  go_upto_region 8 with (fail)
  have yR := RBox.new w2 5 V1
  have hb3 : Below w2.heap.size w2 (w2.alloc (.cells #[.int .u8 5, .int .i32 V1] 32)) := (Below.refl _ _).alloc (Nat.le_refl _) _
  have HB3 := Lib.hid (HB2.out.trans (hb3.mono HB2.out.size))
  have HY3 := Lib.hid (HY2.out.keep hb3)
  have HR3 := Lib.hid (HR2.out.keep hb3)
  have HX3 := Lib.hid yR
  clear yR hb3 HB2 HY2 HR2
  generalize w2.alloc (.cells #[.int .u8 5, .int .i32 V1] 32) = w3 at *
  generalize w2.heap.size = g2 at *
  have y0 := HY3.out.c0
  have y1 := HY3.out.c1
  have HA := Lib.hid (applyAny w3 K 5 none 0 0 [] 4 x (ints_none _ _) (by omega))
  go_wp2_with fail
  refine HA.out.mono ?_
  rintro e w4 ⟨v4, rfl, t4, _, b4⟩
  rw [HE2.out.1] at t4
  rw [HE2.out.2.1, HE2.out.2.2]
  obtain ⟨a4, p4, rfl, rd4, _⟩ := tailReads t4
  have HB4 := Lib.hid (HB3.out.trans (b4.mono HB3.out.size))
  have HX4 := Lib.hid (HX3.out.keep b4)
  have HR4 := Lib.hid (HR3.out.keep b4)
  clear t4 b4 rd4 HA HY3 HB3 HX3 HR3 y0 y1
  go_upto_region 9 with (fail)
  have yR := RBox.new w4 5 V2
  have hb5 : Below w4.heap.size w4 (w4.alloc (.cells #[.int .u8 5, .int .i32 V2] 32)) := (Below.refl _ _).alloc (Nat.le_refl _) _
  have HB5 := Lib.hid (HB4.out.trans (hb5.mono HB4.out.size))
  have HX5 := Lib.hid (HX4.out.keep hb5)
  have HR5 := Lib.hid (HR4.out.keep hb5)
  have HX6 := Lib.hid yR
  clear yR hb5 HB4 HX4 HR4
  generalize w4.alloc (.cells #[.int .u8 5, .int .i32 V2] 32) = w5 at *
  generalize w4.heap.size = g4 at *
  go_wp2_with fail
  refine (known _).mono ?_
  rintro e w7 ⟨rfl, b7⟩
  have HB7 := Lib.hid (HB5.out.trans (b7.mono HB5.out.size))
  have HX7 := Lib.hid (And.intro (HX5.out.keep b7) (HX6.out.keep b7))
  have HR7 := Lib.hid (HR5.out.keep b7)
  clear b7 HB5 HX5 HX6 HR5
  have x0 := HX7.out.1.c0
  have x1 := HX7.out.1.c1
  have x2 := HX7.out.2.c0
  have x3 := HX7.out.2.c1
  have HS := Lib.hid (sameEq w7 a2 ao n p2 cap zs (by have h := HR7.out; rw [HE0.out.1, HE0.out.2] at h; exact h) (HZ.out.keep HB7.out) (by omega))
  go_wp2_with fail
  refine HS.out.mono ?_
  rintro e w8 ⟨rfl, b8⟩
  have HB8 := Lib.hid (HB7.out.trans (b8.mono HB7.out.size))
  have z2 := (HX7.out.2.keep b8).c0
  have z3 := (HX7.out.2.keep b8).c1
  clear b8 HB7 x0 x1 x2 x3
  go_wp2
  go_ret
  exact ⟨rfl, HB8.out⟩

end Go.Proofs.Ytejnadokjnfagaa
