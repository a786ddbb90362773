/-
  The walk of WordBack: for every operation, answer and int64 it answers true and leaves all old memory as it was.
-/
import Derived.Test.YtmmnmkcjgadhmaaWordKnown
namespace Go.Proofs.Ytmmnmkcjgadhmaa
open Go.RowKit

set_option maxRecDepth 100000 in
set_option maxHeartbeats 4000000 in
theorem backYes (k v k' v' a : Int) (k0 : 0 ≤ k) (k1 : k ≤ 255) (v0 : -2147483648 ≤ v) (v1 : v ≤ 2147483647) (j0 : 0 ≤ k') (j1 : k' ≤ 255) (u0 : -2147483648 ≤ v') (u1 : v' ≤ 2147483647)
    (h0 : 1 ≤ a) (h1 : a ≤ 1099511627776) (w : World) :
    Calls Try.prog 4 #[.agg #[.int .u8 k, .int .i32 v], .agg #[.int .u8 k', .int .i32 v'], .int .i64 a] w fun e w' => e = .returned (.bool true) ∧ Fresh w w' := by
  have hb := wd_bd k0 k1 v0 v1
  have hc := wd_bd j0 j1 u0 u1
  obtain ⟨m0, m1⟩ := mask40 a
  generalize hm : bits .and .i64 a 1099511627775 = m at m0 m1
  go_enter Try.func4, Try.ntmps4
  go_wp2_with fail
  refine (wordOp _ _ k0 k1 v0 v1 _).mono ?_
  rintro e w1 ⟨rfl, f1⟩
  generalize hW : ((w.alloc _).alloc _) = W at f1
  obtain ⟨c0, c1, c2, c3, F0⟩ := two_cells w _ _ _ _ _ _ W hW
  clear hW
  have d0 := f1.keep c0
  have d1 := f1.keep c1
  have d2 := f1.keep c2
  have d3 := f1.keep c3
  have F1 := Lib.hid (F0.trans f1)
  clear f1 F0 c0 c1 c2 c3
  go_wp2_with fail
  refine (ofOp _ hb.1 hb.2 _).mono ?_
  rintro e w2 ⟨rfl, f2⟩
  rw [kd_wd k0 k1, vl_wd k0 k1]
  have g2 := f2.alloc #[.int .u8 k, .int .i32 v] 23
  have e0 := g2.keep d0
  have e1 := g2.keep d1
  have e2 := g2.keep d2
  have e3 := g2.keep d3
  have e4 : (w2.alloc (.cells #[.int .u8 k, .int .i32 v] 23)).cell? ⟨w2.heap.size, 0, none⟩ = some (.int .u8 k) := by simp
  have e5 : (w2.alloc (.cells #[.int .u8 k, .int .i32 v] 23)).cell? ⟨w2.heap.size, 1, none⟩ = some (.int .i32 v) := by simp
  have F2 := Lib.hid (F1.out.trans g2)
  clear f2 g2 F1 d0 d1 d2 d3
  go_wp2_with fail
  refine (wordRes _ _ j0 j1 u0 u1 _).mono ?_
  rintro e w3 ⟨rfl, f3⟩
  have d0 := f3.keep e0
  have d1 := f3.keep e1
  have d2 := f3.keep e2
  have d3 := f3.keep e3
  have d4 := f3.keep e4
  have d5 := f3.keep e5
  have F3 := Lib.hid (F2.out.trans f3)
  clear f3 F2 e0 e1 e2 e3 e4 e5
  go_wp2_with fail
  refine (ofRes _ hc.1 hc.2 _).mono ?_
  rintro e w4 ⟨rfl, f4⟩
  rw [kd_wd j0 j1, vl_wd j0 j1]
  have g4 := f4.alloc #[.int .u8 k', .int .i32 v'] 25
  have e0 := g4.keep d0
  have e1 := g4.keep d1
  have e2 := g4.keep d2
  have e3 := g4.keep d3
  have e4 := g4.keep d4
  have e5 := g4.keep d5
  have e6 : (w4.alloc (.cells #[.int .u8 k', .int .i32 v'] 25)).cell? ⟨w4.heap.size, 0, none⟩ = some (.int .u8 k') := by simp
  have e7 : (w4.alloc (.cells #[.int .u8 k', .int .i32 v'] 25)).cell? ⟨w4.heap.size, 1, none⟩ = some (.int .i32 v') := by simp
  have F4 := Lib.hid (F3.out.trans g4)
  clear f4 g4 F3 d0 d1 d2 d3 d4 d5
  go_wp2_with fail
  refine (ofOp _ (by omega) (by omega) _).mono ?_
  rintro e w5 ⟨rfl, f5⟩
  have kb := kd_bd (m + 1)
  have vb := vl_bd (n := m + 1) (by omega) (by omega)
  have g5 := f5.alloc #[.int .u8 (kd (m + 1)), .int .i32 (vl (m + 1))] 23
  have d0 := g5.keep e0
  have d1 := g5.keep e1
  have d2 := g5.keep e2
  have d3 := g5.keep e3
  have d4 := g5.keep e4
  have d5 := g5.keep e5
  have d6 := g5.keep e6
  have d7 := g5.keep e7
  have d8 : (w5.alloc (.cells #[.int .u8 (kd (m + 1)), .int .i32 (vl (m + 1))] 23)).cell? ⟨w5.heap.size, 0, none⟩ = some (.int .u8 (kd (m + 1))) := by simp
  have d9 : (w5.alloc (.cells #[.int .u8 (kd (m + 1)), .int .i32 (vl (m + 1))] 23)).cell? ⟨w5.heap.size, 1, none⟩ = some (.int .i32 (vl (m + 1))) := by simp
  have F5 := Lib.hid (F4.out.trans g5)
  clear f5 g5 F4 e0 e1 e2 e3 e4 e5 e6 e7
  go_wp2_with fail
  refine (ofOp _ h0 h1 _).mono ?_
  rintro e w6 ⟨rfl, f6⟩
  have g6 := f6.alloc #[.int .u8 (kd a), .int .i32 (vl a)] 23
  have e0 := g6.keep d0
  have e1 := g6.keep d1
  have e2 := g6.keep d2
  have e3 := g6.keep d3
  have e4 := g6.keep d4
  have e5 := g6.keep d5
  have e6 := g6.keep d6
  have e7 := g6.keep d7
  have e8 := g6.keep d8
  have e9 := g6.keep d9
  have F6 := Lib.hid (F5.out.trans g6)
  clear f6 g6 F5 d0 d1 d2 d3 d4 d5 d6 d7 d8 d9
  go_wp2_with fail
  refine (known _).mono ?_
  rintro e w7 ⟨rfl, f7⟩
  have d0 := f7.keep e0
  have d1 := f7.keep e1
  have d2 := f7.keep e2
  have d3 := f7.keep e3
  have d4 := f7.keep e4
  have d5 := f7.keep e5
  have d6 := f7.keep e6
  have d7 := f7.keep e7
  have d8 := f7.keep e8
  have d9 := f7.keep e9
  have F7 := Lib.hid (F6.out.trans f7)
  clear f7 F6 e0 e1 e2 e3 e4 e5 e6 e7 e8 e9
  go_wp2_with fail
  refine (wordOp _ _ kb.1 kb.2 vb.1 vb.2 _).mono ?_
  rintro e w8 ⟨rfl, f8⟩
  rw [wd_back]
  have F8 := Lib.hid (F7.out.trans f8)
  clear f8 F7
  go_wp2
  go_ret
  exact ⟨by simp <;> omega, F8.out⟩

set_option maxRecDepth 100000 in
set_option maxHeartbeats 4000000 in
theorem backLow (k v k' v' a : Int) (k0 : 0 ≤ k) (k1 : k ≤ 255) (v0 : -2147483648 ≤ v) (v1 : v ≤ 2147483647) (j0 : 0 ≤ k') (j1 : k' ≤ 255) (u0 : -2147483648 ≤ v') (u1 : v' ≤ 2147483647)
    (h : a < 1) (w : World) :
    Calls Try.prog 4 #[.agg #[.int .u8 k, .int .i32 v], .agg #[.int .u8 k', .int .i32 v'], .int .i64 a] w fun e w' => e = .returned (.bool true) ∧ Fresh w w' := by
  have hb := wd_bd k0 k1 v0 v1
  have hc := wd_bd j0 j1 u0 u1
  obtain ⟨m0, m1⟩ := mask40 a
  generalize hm : bits .and .i64 a 1099511627775 = m at m0 m1
  go_enter Try.func4, Try.ntmps4
  go_wp2_with fail
  refine (wordOp _ _ k0 k1 v0 v1 _).mono ?_
  rintro e w1 ⟨rfl, f1⟩
  generalize hW : ((w.alloc _).alloc _) = W at f1
  obtain ⟨c0, c1, c2, c3, F0⟩ := two_cells w _ _ _ _ _ _ W hW
  clear hW
  have d0 := f1.keep c0
  have d1 := f1.keep c1
  have d2 := f1.keep c2
  have d3 := f1.keep c3
  have F1 := Lib.hid (F0.trans f1)
  clear f1 F0 c0 c1 c2 c3
  go_wp2_with fail
  refine (ofOp _ hb.1 hb.2 _).mono ?_
  rintro e w2 ⟨rfl, f2⟩
  rw [kd_wd k0 k1, vl_wd k0 k1]
  have g2 := f2.alloc #[.int .u8 k, .int .i32 v] 23
  have e0 := g2.keep d0
  have e1 := g2.keep d1
  have e2 := g2.keep d2
  have e3 := g2.keep d3
  have e4 : (w2.alloc (.cells #[.int .u8 k, .int .i32 v] 23)).cell? ⟨w2.heap.size, 0, none⟩ = some (.int .u8 k) := by simp
  have e5 : (w2.alloc (.cells #[.int .u8 k, .int .i32 v] 23)).cell? ⟨w2.heap.size, 1, none⟩ = some (.int .i32 v) := by simp
  have F2 := Lib.hid (F1.out.trans g2)
  clear f2 g2 F1 d0 d1 d2 d3
  go_wp2_with fail
  refine (wordRes _ _ j0 j1 u0 u1 _).mono ?_
  rintro e w3 ⟨rfl, f3⟩
  have d0 := f3.keep e0
  have d1 := f3.keep e1
  have d2 := f3.keep e2
  have d3 := f3.keep e3
  have d4 := f3.keep e4
  have d5 := f3.keep e5
  have F3 := Lib.hid (F2.out.trans f3)
  clear f3 F2 e0 e1 e2 e3 e4 e5
  go_wp2_with fail
  refine (ofRes _ hc.1 hc.2 _).mono ?_
  rintro e w4 ⟨rfl, f4⟩
  rw [kd_wd j0 j1, vl_wd j0 j1]
  have g4 := f4.alloc #[.int .u8 k', .int .i32 v'] 25
  have e0 := g4.keep d0
  have e1 := g4.keep d1
  have e2 := g4.keep d2
  have e3 := g4.keep d3
  have e4 := g4.keep d4
  have e5 := g4.keep d5
  have e6 : (w4.alloc (.cells #[.int .u8 k', .int .i32 v'] 25)).cell? ⟨w4.heap.size, 0, none⟩ = some (.int .u8 k') := by simp
  have e7 : (w4.alloc (.cells #[.int .u8 k', .int .i32 v'] 25)).cell? ⟨w4.heap.size, 1, none⟩ = some (.int .i32 v') := by simp
  have F4 := Lib.hid (F3.out.trans g4)
  clear f4 g4 F3 d0 d1 d2 d3 d4 d5
  go_wp2_with fail
  refine (ofOp _ (by omega) (by omega) _).mono ?_
  rintro e w5 ⟨rfl, f5⟩
  have kb := kd_bd (m + 1)
  have vb := vl_bd (n := m + 1) (by omega) (by omega)
  have g5 := f5.alloc #[.int .u8 (kd (m + 1)), .int .i32 (vl (m + 1))] 23
  have d0 := g5.keep e0
  have d1 := g5.keep e1
  have d2 := g5.keep e2
  have d3 := g5.keep e3
  have d4 := g5.keep e4
  have d5 := g5.keep e5
  have d6 := g5.keep e6
  have d7 := g5.keep e7
  have d8 : (w5.alloc (.cells #[.int .u8 (kd (m + 1)), .int .i32 (vl (m + 1))] 23)).cell? ⟨w5.heap.size, 0, none⟩ = some (.int .u8 (kd (m + 1))) := by simp
  have d9 : (w5.alloc (.cells #[.int .u8 (kd (m + 1)), .int .i32 (vl (m + 1))] 23)).cell? ⟨w5.heap.size, 1, none⟩ = some (.int .i32 (vl (m + 1))) := by simp
  have F5 := Lib.hid (F4.out.trans g5)
  clear f5 g5 F4 e0 e1 e2 e3 e4 e5 e6 e7
  go_wp2_with fail
  refine (ofOpNo _ (Or.inl h) _).mono ?_
  rintro e w6 ⟨rfl, f6⟩
  have g6 := f6.alloc #[.int .u8 0, .int .i32 0] 23
  have e0 := g6.keep d0
  have e1 := g6.keep d1
  have e2 := g6.keep d2
  have e3 := g6.keep d3
  have e4 := g6.keep d4
  have e5 := g6.keep d5
  have e6 := g6.keep d6
  have e7 := g6.keep d7
  have e8 := g6.keep d8
  have e9 := g6.keep d9
  have F6 := Lib.hid (F5.out.trans g6)
  clear f6 g6 F5 d0 d1 d2 d3 d4 d5 d6 d7 d8 d9
  go_wp2_with fail
  refine (known _).mono ?_
  rintro e w7 ⟨rfl, f7⟩
  have d0 := f7.keep e0
  have d1 := f7.keep e1
  have d2 := f7.keep e2
  have d3 := f7.keep e3
  have d4 := f7.keep e4
  have d5 := f7.keep e5
  have d6 := f7.keep e6
  have d7 := f7.keep e7
  have d8 := f7.keep e8
  have d9 := f7.keep e9
  have F7 := Lib.hid (F6.out.trans f7)
  clear f7 F6 e0 e1 e2 e3 e4 e5 e6 e7 e8 e9
  go_wp2_with fail
  refine (wordOp _ _ kb.1 kb.2 vb.1 vb.2 _).mono ?_
  rintro e w8 ⟨rfl, f8⟩
  rw [wd_back]
  have F8 := Lib.hid (F7.out.trans f8)
  clear f8 F7
  go_wp2
  go_ret
  exact ⟨by simp <;> omega, F8.out⟩

set_option maxRecDepth 100000 in
set_option maxHeartbeats 4000000 in
theorem backHigh (k v k' v' a : Int) (k0 : 0 ≤ k) (k1 : k ≤ 255) (v0 : -2147483648 ≤ v) (v1 : v ≤ 2147483647) (j0 : 0 ≤ k') (j1 : k' ≤ 255) (u0 : -2147483648 ≤ v') (u1 : v' ≤ 2147483647)
    (h : 1099511627776 < a) (w : World) :
    Calls Try.prog 4 #[.agg #[.int .u8 k, .int .i32 v], .agg #[.int .u8 k', .int .i32 v'], .int .i64 a] w fun e w' => e = .returned (.bool true) ∧ Fresh w w' := by
  have hb := wd_bd k0 k1 v0 v1
  have hc := wd_bd j0 j1 u0 u1
  obtain ⟨m0, m1⟩ := mask40 a
  generalize hm : bits .and .i64 a 1099511627775 = m at m0 m1
  go_enter Try.func4, Try.ntmps4
  go_wp2_with fail
  refine (wordOp _ _ k0 k1 v0 v1 _).mono ?_
  rintro e w1 ⟨rfl, f1⟩
  generalize hW : ((w.alloc _).alloc _) = W at f1
  obtain ⟨c0, c1, c2, c3, F0⟩ := two_cells w _ _ _ _ _ _ W hW
  clear hW
  have d0 := f1.keep c0
  have d1 := f1.keep c1
  have d2 := f1.keep c2
  have d3 := f1.keep c3
  have F1 := Lib.hid (F0.trans f1)
  clear f1 F0 c0 c1 c2 c3
  go_wp2_with fail
  refine (ofOp _ hb.1 hb.2 _).mono ?_
  rintro e w2 ⟨rfl, f2⟩
  rw [kd_wd k0 k1, vl_wd k0 k1]
  have g2 := f2.alloc #[.int .u8 k, .int .i32 v] 23
  have e0 := g2.keep d0
  have e1 := g2.keep d1
  have e2 := g2.keep d2
  have e3 := g2.keep d3
  have e4 : (w2.alloc (.cells #[.int .u8 k, .int .i32 v] 23)).cell? ⟨w2.heap.size, 0, none⟩ = some (.int .u8 k) := by simp
  have e5 : (w2.alloc (.cells #[.int .u8 k, .int .i32 v] 23)).cell? ⟨w2.heap.size, 1, none⟩ = some (.int .i32 v) := by simp
  have F2 := Lib.hid (F1.out.trans g2)
  clear f2 g2 F1 d0 d1 d2 d3
  go_wp2_with fail
  refine (wordRes _ _ j0 j1 u0 u1 _).mono ?_
  rintro e w3 ⟨rfl, f3⟩
  have d0 := f3.keep e0
  have d1 := f3.keep e1
  have d2 := f3.keep e2
  have d3 := f3.keep e3
  have d4 := f3.keep e4
  have d5 := f3.keep e5
  have F3 := Lib.hid (F2.out.trans f3)
  clear f3 F2 e0 e1 e2 e3 e4 e5
  go_wp2_with fail
  refine (ofRes _ hc.1 hc.2 _).mono ?_
  rintro e w4 ⟨rfl, f4⟩
  rw [kd_wd j0 j1, vl_wd j0 j1]
  have g4 := f4.alloc #[.int .u8 k', .int .i32 v'] 25
  have e0 := g4.keep d0
  have e1 := g4.keep d1
  have e2 := g4.keep d2
  have e3 := g4.keep d3
  have e4 := g4.keep d4
  have e5 := g4.keep d5
  have e6 : (w4.alloc (.cells #[.int .u8 k', .int .i32 v'] 25)).cell? ⟨w4.heap.size, 0, none⟩ = some (.int .u8 k') := by simp
  have e7 : (w4.alloc (.cells #[.int .u8 k', .int .i32 v'] 25)).cell? ⟨w4.heap.size, 1, none⟩ = some (.int .i32 v') := by simp
  have F4 := Lib.hid (F3.out.trans g4)
  clear f4 g4 F3 d0 d1 d2 d3 d4 d5
  go_wp2_with fail
  refine (ofOp _ (by omega) (by omega) _).mono ?_
  rintro e w5 ⟨rfl, f5⟩
  have kb := kd_bd (m + 1)
  have vb := vl_bd (n := m + 1) (by omega) (by omega)
  have g5 := f5.alloc #[.int .u8 (kd (m + 1)), .int .i32 (vl (m + 1))] 23
  have d0 := g5.keep e0
  have d1 := g5.keep e1
  have d2 := g5.keep e2
  have d3 := g5.keep e3
  have d4 := g5.keep e4
  have d5 := g5.keep e5
  have d6 := g5.keep e6
  have d7 := g5.keep e7
  have d8 : (w5.alloc (.cells #[.int .u8 (kd (m + 1)), .int .i32 (vl (m + 1))] 23)).cell? ⟨w5.heap.size, 0, none⟩ = some (.int .u8 (kd (m + 1))) := by simp
  have d9 : (w5.alloc (.cells #[.int .u8 (kd (m + 1)), .int .i32 (vl (m + 1))] 23)).cell? ⟨w5.heap.size, 1, none⟩ = some (.int .i32 (vl (m + 1))) := by simp
  have F5 := Lib.hid (F4.out.trans g5)
  clear f5 g5 F4 e0 e1 e2 e3 e4 e5 e6 e7
  go_wp2_with fail
  refine (ofOpNo _ (Or.inr h) _).mono ?_
  rintro e w6 ⟨rfl, f6⟩
  have g6 := f6.alloc #[.int .u8 0, .int .i32 0] 23
  have e0 := g6.keep d0
  have e1 := g6.keep d1
  have e2 := g6.keep d2
  have e3 := g6.keep d3
  have e4 := g6.keep d4
  have e5 := g6.keep d5
  have e6 := g6.keep d6
  have e7 := g6.keep d7
  have e8 := g6.keep d8
  have e9 := g6.keep d9
  have F6 := Lib.hid (F5.out.trans g6)
  clear f6 g6 F5 d0 d1 d2 d3 d4 d5 d6 d7 d8 d9
  go_wp2_with fail
  refine (known _).mono ?_
  rintro e w7 ⟨rfl, f7⟩
  have d0 := f7.keep e0
  have d1 := f7.keep e1
  have d2 := f7.keep e2
  have d3 := f7.keep e3
  have d4 := f7.keep e4
  have d5 := f7.keep e5
  have d6 := f7.keep e6
  have d7 := f7.keep e7
  have d8 := f7.keep e8
  have d9 := f7.keep e9
  have F7 := Lib.hid (F6.out.trans f7)
  clear f7 F6 e0 e1 e2 e3 e4 e5 e6 e7 e8 e9
  go_wp2_with fail
  refine (wordOp _ _ kb.1 kb.2 vb.1 vb.2 _).mono ?_
  rintro e w8 ⟨rfl, f8⟩
  rw [wd_back]
  have F8 := Lib.hid (F7.out.trans f8)
  clear f8 F7
  go_wp2
  go_ret
  exact ⟨by simp <;> omega, F8.out⟩

theorem backWalk (k v k' v' a : Int) (k0 : 0 ≤ k) (k1 : k ≤ 255) (v0 : -2147483648 ≤ v) (v1 : v ≤ 2147483647) (j0 : 0 ≤ k') (j1 : k' ≤ 255) (u0 : -2147483648 ≤ v') (u1 : v' ≤ 2147483647)
    (_ : -9223372036854775808 ≤ a) (_ : a ≤ 9223372036854775807) (w : World) :
    Calls Try.prog 4 #[.agg #[.int .u8 k, .int .i32 v], .agg #[.int .u8 k', .int .i32 v'], .int .i64 a] w fun e w' => e = .returned (.bool true) ∧ Fresh w w' := by
  by_cases h : 1 ≤ a ∧ a ≤ 1099511627776
  · exact backYes k v k' v' a k0 k1 v0 v1 j0 j1 u0 u1 h.1 h.2 w
  · by_cases h' : a < 1
    · exact backLow k v k' v' a k0 k1 v0 v1 j0 j1 u0 u1 h' w
    · exact backHigh k v k' v' a k0 k1 v0 v1 j0 j1 u0 u1 (by omega) w

end Go.Proofs.Ytmmnmkcjgadhmaa
