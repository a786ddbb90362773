/-
  The walk of SpecBack: for all items, numbers and ends it answers true and leaves all old memory as it was.
-/
import Derived.Test.YtejnadokjnfagaaOBox8
namespace Go.Proofs.Ytejnadokjnfagaa
open Go.RowKit Go.Lib

theorem back_stack (zs : List Int) (v : Int) (h : zs.length ≤ 100) : runZ 1 (mostOf 200) zs [(1, v), (2, 0)] = zs ∧ runT 1 (mostOf 200) zs [(1, v), (2, 0)] = [(1, 0), (2, v)] := by
  have e : mostOf 200 = 200 := rfl
  have h1 : (zs.length : Int) < 200 := by omega
  rw [e]
  constructor
  · simp [runZ, objL, stkL, h1]
  · simp [runT, objL, objC, objV, stkL, stkC, stkV, h1]
theorem back_left (zs : List Int) (v : Int) (h : zs.length ≤ 100) : runZ 2 (mostOf 200) zs [(1, v), (3, 0)] = zs ∧ runT 2 (mostOf 200) zs [(1, v), (3, 0)] = [(1, 0), (2, v)] := by
  have e : mostOf 200 = 200 := rfl
  have h1 : (zs.length : Int) < 200 := by omega
  rw [e]
  constructor
  · simp [runZ, objL, dqL, h1]
  · simp [runT, objL, objC, objV, dqL, dqC, dqV, h1]
theorem back_right (zs : List Int) (v : Int) (h : zs.length ≤ 100) : runZ 2 (mostOf 200) zs [(2, v), (4, 0)] = zs ∧ runT 2 (mostOf 200) zs [(2, v), (4, 0)] = [(1, 0), (2, v)] := by
  have e : mostOf 200 = 200 := rfl
  have h1 : (zs.length : Int) < 200 := by omega
  rw [e]
  constructor
  · simp [runZ, objL, dqL, h1]
  · simp [runT, objL, objC, objV, dqL, dqC, dqV, h1]

theorem back_ends (zs : List Int) (v a b : Int) (h : (a = 1 ∧ b = 3) ∨ (a = 2 ∧ b = 4)) (hn : zs.length ≤ 100) : runZ 2 (mostOf 200) zs [(a, v), (b, 0)] = zs ∧ runT 2 (mostOf 200) zs [(a, v), (b, 0)] = [(1, 0), (2, v)] := by
  rcases h with ⟨rfl, rfl⟩ | ⟨rfl, rfl⟩
  · exact back_left zs v hn
  · exact back_right zs v hn

/-- Two operations in new memory. -/
theorem two_ops (w : World) (a b c d : Int) : OpsAt (w.alloc (.cells #[.int .u8 a, .int .i32 b, .int .u8 c, .int .i32 d] 36)) (some ⟨w.heap.size, 0, none⟩) 2 [(a, b), (c, d)] := ⟨rfl, fun _ => ⟨w.heap.size, 0, rfl, by simp, fun i hi => by
  match i, hi with
  | 0, _ => exact ⟨by go_simp, by go_simp⟩
  | 1, _ => exact ⟨by go_simp, by go_simp⟩⟩⟩

set_option maxRecDepth 100000 in
set_option maxHeartbeats 16000000 in
theorem backWalk {w : World} (ao : Option Addr) (n cap : Nat) (zs : List Int) (v : Int) (right : Bool) (hz : ArgInt32s w ao n cap zs) (hn : n ≤ 140737488351232) (_ : -2147483648 ≤ v) (_ : v ≤ 2147483647) :
    Calls Try.prog 9 #[.slice ao n cap, .int .i32 v, .bool right] w fun e w' => e = .returned (.bool true) ∧ Below w.heap.size w w' := by
  have hq := eqSelf
  have HZ := Lib.hid hz.1
  have HL := Lib.hid hz.1.1
  clear hz
  by_cases h1 : 100 < n
  · go_enter Try.func9, Try.ntmps9
    go_wp2_with (go_at_call 10; refine (known _).mono ?_; rintro e w1 ⟨rfl, b1⟩; have HB1 := Lib.hid b1; clear b1)
    go_ret
    exact ⟨rfl, HB1.out⟩
  · cases right
    · go_enter Try.func9, Try.ntmps9
      go_upto_region 5 with (fail)
      generalize hW : (w.alloc (.cells #[.int .u8 1, .int .i32 v] 36)).alloc (.cells #[.int .u8 3, .int .i32 0] 36) = W0
      have q0 : OBox W0 w.heap.size 1 v := by subst hW; exact (OBox.new w 1 v).alloc _
      have q1 : OBox W0 (w.heap.size + 1) 3 0 := by subst hW; have := OBox.new (w.alloc (.cells #[.int .u8 1, .int .i32 v] 36)) 3 0; simpa using this
      have hb0 : Below w.heap.size w W0 := by subst hW; exact ((Below.refl _ _).alloc (Nat.le_refl _) _).alloc (by simp) _
      clear hW
      go_upto_region 8 with (fail)
      have q0' := q0
      have q1' := q1
      have hb := hb0
      clear q0 q1 hb0
      generalize W0 = W at *
      have x0 := q0'.c0
      have x1 := q0'.c1
      have x2 := q1'.c0
      have x3 := q1'.c1
      have hs := q1'.lt
      have HB := Lib.hid hb
      have HX := Lib.hid (And.intro (And.intro x0 x1) (And.intro (And.intro x2 x3) hs))
      clear hb x0 x1 x2 x3 hs q0' q1'
      have hb1 : Below W.heap.size W (W.alloc (.cells #[.int .u8 1, .int .i32 v, .int .u8 2, .int .i32 0] 36)) := (Below.refl _ _).alloc (Nat.le_refl _) _
      have C := runAny (W.alloc (.cells #[.int .u8 1, .int .i32 v, .int .u8 2, .int .i32 0] 36)) 1 200 ao (some ⟨W.heap.size, 0, none⟩) n cap 2 2 zs [(1, v), (2, 0)] ((HZ.out.keep HB.out).keep hb1) (two_ops W 1 v 2 0) (by omega) (by omega)
      have HC := Lib.hid C
      have HB1 := Lib.hid hb1
      clear C hb1
      go_wp2_with fail
      refine HC.out.mono ?_
      rintro e w2 ⟨v1, p1, rfl, t1, r1, _, m1, b1⟩
      have hrun := back_stack zs v (by rw [HL.out]; omega)
      rw [hrun.1] at t1
      rw [hrun.2] at r1
      obtain ⟨a1, c1, rfl, rd1, _⟩ := tailReads t1
      rw [HL.out] at rd1 ⊢
      have hbw := HB1.out.trans (b1.mono HB1.out.size)
      have HB2 := Lib.hid (HB.out.trans (hbw.mono HB.out.size))
      have HR1 := Lib.hid (And.intro rd1 r1)
      have x0 := (hbw.cell (p := ⟨w.heap.size, 0, none⟩) (by have := HX.out.2.2; simp; omega)).trans HX.out.1.1
      have x1 := (hbw.cell (p := ⟨w.heap.size, 1, none⟩) (by have := HX.out.2.2; simp; omega)).trans HX.out.1.2
      have x2 := (hbw.cell (p := ⟨w.heap.size + 1, 0, none⟩) (by have := HX.out.2.2; simp; omega)).trans HX.out.2.1.1
      have x3 := (hbw.cell (p := ⟨w.heap.size + 1, 1, none⟩) (by have := HX.out.2.2; simp; omega)).trans HX.out.2.1.2
      clear t1 r1 m1 b1 hrun rd1 hbw HC HB1
      have hb3 : Below w2.heap.size w2 (w2.alloc (.cells #[.int .u8 1, .int .i32 v, .int .u8 3, .int .i32 0] 36)) := (Below.refl _ _).alloc (Nat.le_refl _) _
      have C := runAny (w2.alloc (.cells #[.int .u8 1, .int .i32 v, .int .u8 3, .int .i32 0] 36)) 2 200 ao (some ⟨w2.heap.size, 0, none⟩) n cap 2 2 zs [(1, v), (3, 0)] ((HZ.out.keep HB2.out).keep hb3) (two_ops w2 1 v 3 0) (by omega) (by omega)
      have HC := Lib.hid C
      have HB3 := Lib.hid hb3
      clear C hb3
      go_wp2_with fail
      refine HC.out.mono ?_
      rintro e w4 ⟨v2, p2, rfl, t2, r2, _, m2, b2⟩
      have hrun := back_left zs v (by rw [HL.out]; omega)
      rw [hrun.1] at t2
      rw [hrun.2] at r2
      obtain ⟨a2, c2, rfl, rd2, _⟩ := tailReads t2
      rw [HL.out] at rd2 ⊢
      have hbw := HB3.out.trans (b2.mono HB3.out.size)
      have HB4 := Lib.hid (HB2.out.trans (hbw.mono HB2.out.size))
      have r1' := HR1.out.2.below hbw
      obtain ⟨g0, g1⟩ := r1'.cells (i := 1) (by simp)
      obtain ⟨g2, g3⟩ := r2.cells (i := 1) (by simp)
      simp only [List.getD_cons_succ, List.getD_cons_zero, Nat.one_mul] at g0 g1 g2 g3
      have HA := Lib.hid (HR1.out.1.keep hbw)
      have HD := Lib.hid rd2
      have HF := Lib.hid (And.intro r1'.lt r2.lt)
      clear t2 r2 m2 b2 hrun rd2 hbw r1' x0 x1 x2 x3 HC HB3 HR1 HX HB2
      simp only [List.length_cons, List.length_nil, Nat.zero_add, Nat.reduceAdd]
      go_upto_region 12 with (fail)
      have K := known w4.drew
      have HBd := Lib.hid HB4.out.drew
      have HAd := Lib.hid (HA.out.keep ((Below.refl w4.heap.size w4).drew))
      have HDd := Lib.hid (HD.out.keep ((Below.refl w4.heap.size w4).drew))
      go_region_held3 (fun w' => w'.cell? ⟨p1, 2, none⟩ = some (.int .u8 2) ∧ w'.cell? ⟨p1, 3, none⟩ = some (.int .i32 v) ∧ w'.cell? ⟨p2, 2, none⟩ = some (.int .u8 2) ∧ w'.cell? ⟨p2, 3, none⟩ = some (.int .i32 v)) (first | exact ⟨g0, g1, g2, g3⟩ | exact ⟨h0, h1, h2, h3⟩ | exact ⟨i0, i1, i2, i3⟩ | exact ⟨j0, j1, j2, j3⟩) (first
        | (go_at_call 10; refine K.mono ?_; rintro e w6 ⟨rfl, b6⟩; have h0 := (b6.cell (p := ⟨p1, 2, none⟩) HF.out.1).trans g0; have h1 := (b6.cell (p := ⟨p1, 3, none⟩) HF.out.1).trans g1; have h2 := (b6.cell (p := ⟨p2, 2, none⟩) HF.out.2).trans g2; have h3 := (b6.cell (p := ⟨p2, 3, none⟩) HF.out.2).trans g3; have HB6 := Lib.hid (HBd.out.trans (b6.mono HBd.out.size)); have HS6 := Lib.hid (Nat.le_trans (Nat.le_refl _) b6.size); have S := sameEq w6 a1 ao n c1 cap zs (HAd.out.keep b6) (HZ.out.keep (HBd.out.trans (b6.mono HBd.out.size))) (by omega); have HA6 := Lib.hid (HDd.out.keep b6); clear b6)
        | (go_at_call 17; (with_reducible refine S2.mono ?_); rintro e w8 ⟨rfl, b8⟩; have j0 := (b8.cell (p := ⟨p1, 2, none⟩) (Nat.lt_of_lt_of_le HF.out.1 HS7.out)).trans i0; have j1 := (b8.cell (p := ⟨p1, 3, none⟩) (Nat.lt_of_lt_of_le HF.out.1 HS7.out)).trans i1; have j2 := (b8.cell (p := ⟨p2, 2, none⟩) (Nat.lt_of_lt_of_le HF.out.2 HS7.out)).trans i2; have j3 := (b8.cell (p := ⟨p2, 3, none⟩) (Nat.lt_of_lt_of_le HF.out.2 HS7.out)).trans i3; have HB8 := Lib.hid (HB7.out.trans (b8.mono HB7.out.size)); clear b8)
        | (go_at_call 17; (with_reducible refine S.mono ?_); rintro e w7 ⟨rfl, b7⟩; have i0 := (b7.cell (p := ⟨p1, 2, none⟩) (Nat.lt_of_lt_of_le HF.out.1 HS6.out)).trans h0; have i1 := (b7.cell (p := ⟨p1, 3, none⟩) (Nat.lt_of_lt_of_le HF.out.1 HS6.out)).trans h1; have i2 := (b7.cell (p := ⟨p2, 2, none⟩) (Nat.lt_of_lt_of_le HF.out.2 HS6.out)).trans h2; have i3 := (b7.cell (p := ⟨p2, 3, none⟩) (Nat.lt_of_lt_of_le HF.out.2 HS6.out)).trans h3; have HB7 := Lib.hid (HB6.out.trans (b7.mono HB6.out.size)); have HS7 := Lib.hid (Nat.le_trans HS6.out b7.size); have S2 := sameEq w7 a2 ao n c2 cap zs (HA6.out.keep b7) (HZ.out.keep (HB6.out.trans (b7.mono HB6.out.size))) (by omega); clear b7 S))
      all_goals
        go_wp2
        go_ret
        exact ⟨rfl, HB8.out⟩
    · go_enter Try.func9, Try.ntmps9
      go_upto_region 5 with (fail)
      generalize hW : (w.alloc (.cells #[.int .u8 1, .int .i32 v] 36)).alloc (.cells #[.int .u8 3, .int .i32 0] 36) = W0
      have q0 : OBox W0 w.heap.size 1 v := by subst hW; exact (OBox.new w 1 v).alloc _
      have q1 : OBox W0 (w.heap.size + 1) 3 0 := by subst hW; have := OBox.new (w.alloc (.cells #[.int .u8 1, .int .i32 v] 36)) 3 0; simpa using this
      have hb0 : Below w.heap.size w W0 := by subst hW; exact ((Below.refl _ _).alloc (Nat.le_refl _) _).alloc (by simp) _
      clear hW
      have k0 := q0.c0
      have k1 := q1.c0
      have k2 := q0.f
      have k3 := q1.f
      have k4 := (q0.set0 2)
      have k5 := (q1.other (p := ⟨w.heap.size, 0, none⟩) (by simp) (.int .u8 2))
      have k6 := k5.c0
      have k7 := k5.f
      go_upto_region 8 with (fail)
      have q0' := k4.other (p := ⟨w.heap.size + 1, 0, none⟩) (by simp) (.int .u8 4)
      have q1' := k5.set0 4
      have hb := (hb0.setCell (p := ⟨w.heap.size, 0, none⟩) (by simp) (.int .u8 2)).setCell (p := ⟨w.heap.size + 1, 0, none⟩) (by simp) (.int .u8 4)
      clear k0 k1 k2 k3 k4 k5 k6 k7 q0 q1 hb0
      generalize (W0.setCell ⟨w.heap.size, 0, none⟩ (.int .u8 2)).setCell ⟨w.heap.size + 1, 0, none⟩ (.int .u8 4) = W at *
      have x0 := q0'.c0
      have x1 := q0'.c1
      have x2 := q1'.c0
      have x3 := q1'.c1
      have hs := q1'.lt
      have HB := Lib.hid hb
      have HX := Lib.hid (And.intro (And.intro x0 x1) (And.intro (And.intro x2 x3) hs))
      clear hb x0 x1 x2 x3 hs q0' q1'
      have hb1 : Below W.heap.size W (W.alloc (.cells #[.int .u8 1, .int .i32 v, .int .u8 2, .int .i32 0] 36)) := (Below.refl _ _).alloc (Nat.le_refl _) _
      have C := runAny (W.alloc (.cells #[.int .u8 1, .int .i32 v, .int .u8 2, .int .i32 0] 36)) 1 200 ao (some ⟨W.heap.size, 0, none⟩) n cap 2 2 zs [(1, v), (2, 0)] ((HZ.out.keep HB.out).keep hb1) (two_ops W 1 v 2 0) (by omega) (by omega)
      have HC := Lib.hid C
      have HB1 := Lib.hid hb1
      clear C hb1
      go_wp2_with fail
      refine HC.out.mono ?_
      rintro e w2 ⟨v1, p1, rfl, t1, r1, _, m1, b1⟩
      have hrun := back_stack zs v (by rw [HL.out]; omega)
      rw [hrun.1] at t1
      rw [hrun.2] at r1
      obtain ⟨a1, c1, rfl, rd1, _⟩ := tailReads t1
      rw [HL.out] at rd1 ⊢
      have hbw := HB1.out.trans (b1.mono HB1.out.size)
      have HB2 := Lib.hid (HB.out.trans (hbw.mono HB.out.size))
      have HR1 := Lib.hid (And.intro rd1 r1)
      have x0 := (hbw.cell (p := ⟨w.heap.size, 0, none⟩) (by have := HX.out.2.2; simp; omega)).trans HX.out.1.1
      have x1 := (hbw.cell (p := ⟨w.heap.size, 1, none⟩) (by have := HX.out.2.2; simp; omega)).trans HX.out.1.2
      have x2 := (hbw.cell (p := ⟨w.heap.size + 1, 0, none⟩) (by have := HX.out.2.2; simp; omega)).trans HX.out.2.1.1
      have x3 := (hbw.cell (p := ⟨w.heap.size + 1, 1, none⟩) (by have := HX.out.2.2; simp; omega)).trans HX.out.2.1.2
      clear t1 r1 m1 b1 hrun rd1 hbw HC HB1
      have hb3 : Below w2.heap.size w2 (w2.alloc (.cells #[.int .u8 2, .int .i32 v, .int .u8 4, .int .i32 0] 36)) := (Below.refl _ _).alloc (Nat.le_refl _) _
      have C := runAny (w2.alloc (.cells #[.int .u8 2, .int .i32 v, .int .u8 4, .int .i32 0] 36)) 2 200 ao (some ⟨w2.heap.size, 0, none⟩) n cap 2 2 zs [(2, v), (4, 0)] ((HZ.out.keep HB2.out).keep hb3) (two_ops w2 2 v 4 0) (by omega) (by omega)
      have HC := Lib.hid C
      have HB3 := Lib.hid hb3
      clear C hb3
      go_wp2_with fail
      refine HC.out.mono ?_
      rintro e w4 ⟨v2, p2, rfl, t2, r2, _, m2, b2⟩
      have hrun := back_right zs v (by rw [HL.out]; omega)
      rw [hrun.1] at t2
      rw [hrun.2] at r2
      obtain ⟨a2, c2, rfl, rd2, _⟩ := tailReads t2
      rw [HL.out] at rd2 ⊢
      have hbw := HB3.out.trans (b2.mono HB3.out.size)
      have HB4 := Lib.hid (HB2.out.trans (hbw.mono HB2.out.size))
      have r1' := HR1.out.2.below hbw
      obtain ⟨g0, g1⟩ := r1'.cells (i := 1) (by simp)
      obtain ⟨g2, g3⟩ := r2.cells (i := 1) (by simp)
      simp only [List.getD_cons_succ, List.getD_cons_zero, Nat.one_mul] at g0 g1 g2 g3
      have HA := Lib.hid (HR1.out.1.keep hbw)
      have HD := Lib.hid rd2
      have HF := Lib.hid (And.intro r1'.lt r2.lt)
      clear t2 r2 m2 b2 hrun rd2 hbw r1' x0 x1 x2 x3 HC HB3 HR1 HX HB2
      simp only [List.length_cons, List.length_nil, Nat.zero_add, Nat.reduceAdd]
      go_upto_region 12 with (fail)
      have K := known w4.drew
      have HBd := Lib.hid HB4.out.drew
      have HAd := Lib.hid (HA.out.keep ((Below.refl w4.heap.size w4).drew))
      have HDd := Lib.hid (HD.out.keep ((Below.refl w4.heap.size w4).drew))
      go_region_held3 (fun w' => w'.cell? ⟨p1, 2, none⟩ = some (.int .u8 2) ∧ w'.cell? ⟨p1, 3, none⟩ = some (.int .i32 v) ∧ w'.cell? ⟨p2, 2, none⟩ = some (.int .u8 2) ∧ w'.cell? ⟨p2, 3, none⟩ = some (.int .i32 v)) (first | exact ⟨g0, g1, g2, g3⟩ | exact ⟨h0, h1, h2, h3⟩ | exact ⟨i0, i1, i2, i3⟩ | exact ⟨j0, j1, j2, j3⟩) (first
        | (go_at_call 10; refine K.mono ?_; rintro e w6 ⟨rfl, b6⟩; have h0 := (b6.cell (p := ⟨p1, 2, none⟩) HF.out.1).trans g0; have h1 := (b6.cell (p := ⟨p1, 3, none⟩) HF.out.1).trans g1; have h2 := (b6.cell (p := ⟨p2, 2, none⟩) HF.out.2).trans g2; have h3 := (b6.cell (p := ⟨p2, 3, none⟩) HF.out.2).trans g3; have HB6 := Lib.hid (HBd.out.trans (b6.mono HBd.out.size)); have HS6 := Lib.hid (Nat.le_trans (Nat.le_refl _) b6.size); have S := sameEq w6 a1 ao n c1 cap zs (HAd.out.keep b6) (HZ.out.keep (HBd.out.trans (b6.mono HBd.out.size))) (by omega); have HA6 := Lib.hid (HDd.out.keep b6); clear b6)
        | (go_at_call 17; (with_reducible refine S2.mono ?_); rintro e w8 ⟨rfl, b8⟩; have j0 := (b8.cell (p := ⟨p1, 2, none⟩) (Nat.lt_of_lt_of_le HF.out.1 HS7.out)).trans i0; have j1 := (b8.cell (p := ⟨p1, 3, none⟩) (Nat.lt_of_lt_of_le HF.out.1 HS7.out)).trans i1; have j2 := (b8.cell (p := ⟨p2, 2, none⟩) (Nat.lt_of_lt_of_le HF.out.2 HS7.out)).trans i2; have j3 := (b8.cell (p := ⟨p2, 3, none⟩) (Nat.lt_of_lt_of_le HF.out.2 HS7.out)).trans i3; have HB8 := Lib.hid (HB7.out.trans (b8.mono HB7.out.size)); clear b8)
        | (go_at_call 17; (with_reducible refine S.mono ?_); rintro e w7 ⟨rfl, b7⟩; have i0 := (b7.cell (p := ⟨p1, 2, none⟩) (Nat.lt_of_lt_of_le HF.out.1 HS6.out)).trans h0; have i1 := (b7.cell (p := ⟨p1, 3, none⟩) (Nat.lt_of_lt_of_le HF.out.1 HS6.out)).trans h1; have i2 := (b7.cell (p := ⟨p2, 2, none⟩) (Nat.lt_of_lt_of_le HF.out.2 HS6.out)).trans h2; have i3 := (b7.cell (p := ⟨p2, 3, none⟩) (Nat.lt_of_lt_of_le HF.out.2 HS6.out)).trans h3; have HB7 := Lib.hid (HB6.out.trans (b7.mono HB6.out.size)); have HS7 := Lib.hid (Nat.le_trans HS6.out b7.size); have S2 := sameEq w7 a2 ao n c2 cap zs (HA6.out.keep b7) (HZ.out.keep (HB6.out.trans (b7.mono HB6.out.size))) (by omega); clear b7 S))
      all_goals
        go_wp2
        go_ret
        exact ⟨rfl, HB8.out⟩

end Go.Proofs.Ytejnadokjnfagaa
