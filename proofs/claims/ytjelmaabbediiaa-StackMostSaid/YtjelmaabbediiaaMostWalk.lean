/-
  The walk of StackMost: for all numbers it answers true and leaves all old memory as it was.
-/
import Derived.Test.YtjelmaabbediiaaStkKnown
namespace Go.Proofs.Ytjelmaabbediiaa
open Go.RowKit

set_option maxRecDepth 100000 in
set_option maxHeartbeats 3200000 in
theorem most_loNeg (most k : Int) (hm : most < 0) (hk : k < 0) (kl : -32768 ≤ k) (kh : k ≤ 32767) (w : World) :
    Calls Try.prog 8 #[.int .i64 most, .int .i16 k] w fun e w' => e = .returned (.bool true) ∧ Below w.heap.size w w' := by
  have HM := Lib.hid (show mostOf most = 0 from by unfold mostOf; rw [if_pos hm])
  have HK := Lib.hid (show mostOf k = 0 from by unfold mostOf; rw [if_pos hk])
  go_enter Try.func8, Try.ntmps8
  go_wp2_with fail
  refine (newAny most w).mono ?_
  rintro e w1 ⟨rfl, s1, b1⟩
  rw [HM.out] at s1
  have HS1 := Lib.hid s1
  have HB1 := Lib.hid b1
  clear s1 b1
  go_wp2_with fail
  refine (newAny k w1).mono ?_
  rintro e w2 ⟨rfl, t2, b2⟩
  rw [HK.out] at t2
  have HS2 := Lib.hid (HS1.out.fresh b2)
  have HT2 := Lib.hid t2
  have HB2 := Lib.hid (HB1.out.trans (b2.mono HB1.out.size))
  clear t2 b2 HS1 HB1
  go_wp2_with fail
  refine (known w2).mono ?_
  rintro e w3 ⟨rfl, b3⟩
  have HS3 := Lib.hid (HS2.out.fresh b3)
  have HT3 := Lib.hid (HT2.out.fresh b3)
  have HB3 := Lib.hid (HB2.out.trans (b3.mono HB2.out.size))
  clear b3 HS2 HB2
  have CS := mostAny HS3.out
  have CT := mostAny HT3.out
  go_wp2_with fail
  refine CS.mono ?_
  rintro e w' ⟨rfl, rfl⟩
  go_wp2_with fail
  refine CS.mono ?_
  rintro e w' ⟨rfl, rfl⟩
  go_wp2_with fail
  refine CT.mono ?_
  rintro e w' ⟨rfl, rfl⟩
  clear CS CT
  go_wp2_with fail
  refine (pushFull HT3.out 1 (by simp)).mono ?_
  rintro e w' ⟨rfl, rfl⟩
  have CS := mostAny HS3.out
  go_wp2_with (go_at_call 20; refine CS.mono ?_; rintro e w' ⟨rfl, rfl⟩)
  go_ret
  exact ⟨rfl, HB3.out⟩

set_option maxRecDepth 100000 in
set_option maxHeartbeats 3200000 in
theorem most_loZero (most k : Int) (hm : most < 0) (hk : k = 0) (kl : -32768 ≤ k) (kh : k ≤ 32767) (w : World) :
    Calls Try.prog 8 #[.int .i64 most, .int .i16 k] w fun e w' => e = .returned (.bool true) ∧ Below w.heap.size w w' := by
  have HM := Lib.hid (show mostOf most = 0 from by unfold mostOf; rw [if_pos hm])
  have HK := Lib.hid (show mostOf k = 0 from by subst hk; decide)
  subst hk
  clear kl kh
  go_enter Try.func8, Try.ntmps8
  go_wp2_with fail
  refine (newAny most w).mono ?_
  rintro e w1 ⟨rfl, s1, b1⟩
  rw [HM.out] at s1
  have HS1 := Lib.hid s1
  have HB1 := Lib.hid b1
  clear s1 b1
  go_wp2_with fail
  refine (newAny 0 w1).mono ?_
  rintro e w2 ⟨rfl, t2, b2⟩
  rw [HK.out] at t2
  have HS2 := Lib.hid (HS1.out.fresh b2)
  have HT2 := Lib.hid t2
  have HB2 := Lib.hid (HB1.out.trans (b2.mono HB1.out.size))
  clear t2 b2 HS1 HB1
  go_wp2_with fail
  refine (known w2).mono ?_
  rintro e w3 ⟨rfl, b3⟩
  have HS3 := Lib.hid (HS2.out.fresh b3)
  have HT3 := Lib.hid (HT2.out.fresh b3)
  have HB3 := Lib.hid (HB2.out.trans (b3.mono HB2.out.size))
  clear b3 HS2 HB2
  have CS := mostAny HS3.out
  have CT := mostAny HT3.out
  go_wp2_with fail
  refine CS.mono ?_
  rintro e w' ⟨rfl, rfl⟩
  go_wp2_with fail
  refine CS.mono ?_
  rintro e w' ⟨rfl, rfl⟩
  go_wp2_with fail
  refine CT.mono ?_
  rintro e w' ⟨rfl, rfl⟩
  clear CS CT
  go_wp2_with fail
  refine (pushFull HT3.out 1 (by simp)).mono ?_
  rintro e w' ⟨rfl, rfl⟩
  have CS := mostAny HS3.out
  go_wp2_with (go_at_call 20; refine CS.mono ?_; rintro e w' ⟨rfl, rfl⟩)
  go_ret
  exact ⟨rfl, HB3.out⟩

set_option maxRecDepth 100000 in
set_option maxHeartbeats 3200000 in
theorem most_loIn (most k : Int) (hm : most < 0) (k0 : 0 < k) (k1 : k ≤ 1000) (kl : -32768 ≤ k) (kh : k ≤ 32767) (w : World) :
    Calls Try.prog 8 #[.int .i64 most, .int .i16 k] w fun e w' => e = .returned (.bool true) ∧ Below w.heap.size w w' := by
  have HM := Lib.hid (show mostOf most = 0 from by unfold mostOf; rw [if_pos hm])
  have HK := Lib.hid (show mostOf k = k from mostOf_self k (by omega) k1)
  go_enter Try.func8, Try.ntmps8
  go_wp2_with fail
  refine (newAny most w).mono ?_
  rintro e w1 ⟨rfl, s1, b1⟩
  rw [HM.out] at s1
  have HS1 := Lib.hid s1
  have HB1 := Lib.hid b1
  clear s1 b1
  go_wp2_with fail
  refine (newAny k w1).mono ?_
  rintro e w2 ⟨rfl, t2, b2⟩
  rw [HK.out] at t2
  have HS2 := Lib.hid (HS1.out.fresh b2)
  have HT2 := Lib.hid t2
  have HA := Lib.hid (New.apart (w := w1) (w' := w2) HS1.out.foot)
  have HB2 := Lib.hid (HB1.out.trans (b2.mono HB1.out.size))
  have HL := Lib.hid HB1.out.size
  clear t2 b2 HS1 HB1
  go_wp2_with fail
  refine (known w2).mono ?_
  rintro e w3 ⟨rfl, b3⟩
  have HS3 := Lib.hid (HS2.out.fresh b3)
  have HT3 := Lib.hid (HT2.out.fresh b3)
  have HB3 := Lib.hid (HB2.out.trans (b3.mono HB2.out.size))
  clear b3 HS2 HB2
  have CS := mostAny HS3.out
  have CT := mostAny HT3.out
  go_wp2_with fail
  refine CS.mono ?_
  rintro e w' ⟨rfl, rfl⟩
  go_wp2_with fail
  refine CS.mono ?_
  rintro e w' ⟨rfl, rfl⟩
  go_wp2_with fail
  refine CT.mono ?_
  rintro e w' ⟨rfl, rfl⟩
  clear CS CT
  have C := pushOk HT3.out 1 (by simp <;> omega)
  go_wp2_with fail
  refine C.mono ?_
  clear C
  rintro e w4 ⟨rfl, F', t4, wr, _⟩
  have CS := mostAny (HS3.out.apart wr HA.out)
  have HB4 := Lib.hid (HB3.out.trans (wr.below (B := w.heap.size) HB3.out.size (fun g hg => Nat.le_trans HL.out hg.1)))
  clear wr t4
  go_wp2_with (go_at_call 20; refine CS.mono ?_; rintro e w' ⟨rfl, rfl⟩)
  go_ret
  exact ⟨rfl, HB4.out⟩

set_option maxRecDepth 100000 in
set_option maxHeartbeats 3200000 in
theorem most_loHi (most k : Int) (hm : most < 0) (hk : 1000 < k) (kl : -32768 ≤ k) (kh : k ≤ 32767) (w : World) :
    Calls Try.prog 8 #[.int .i64 most, .int .i16 k] w fun e w' => e = .returned (.bool true) ∧ Below w.heap.size w w' := by
  have HM := Lib.hid (show mostOf most = 0 from by unfold mostOf; rw [if_pos hm])
  have HK := Lib.hid (show mostOf k = 1000 from by unfold mostOf; rw [if_neg (by omega), if_pos hk])
  go_enter Try.func8, Try.ntmps8
  go_wp2_with fail
  refine (newAny most w).mono ?_
  rintro e w1 ⟨rfl, s1, b1⟩
  rw [HM.out] at s1
  have HS1 := Lib.hid s1
  have HB1 := Lib.hid b1
  clear s1 b1
  go_wp2_with fail
  refine (newAny k w1).mono ?_
  rintro e w2 ⟨rfl, t2, b2⟩
  rw [HK.out] at t2
  have HS2 := Lib.hid (HS1.out.fresh b2)
  have HT2 := Lib.hid t2
  have HA := Lib.hid (New.apart (w := w1) (w' := w2) HS1.out.foot)
  have HB2 := Lib.hid (HB1.out.trans (b2.mono HB1.out.size))
  have HL := Lib.hid HB1.out.size
  clear t2 b2 HS1 HB1
  go_wp2_with fail
  refine (known w2).mono ?_
  rintro e w3 ⟨rfl, b3⟩
  have HS3 := Lib.hid (HS2.out.fresh b3)
  have HT3 := Lib.hid (HT2.out.fresh b3)
  have HB3 := Lib.hid (HB2.out.trans (b3.mono HB2.out.size))
  clear b3 HS2 HB2
  have CS := mostAny HS3.out
  have CT := mostAny HT3.out
  go_wp2_with fail
  refine CS.mono ?_
  rintro e w' ⟨rfl, rfl⟩
  go_wp2_with fail
  refine CS.mono ?_
  rintro e w' ⟨rfl, rfl⟩
  go_wp2_with fail
  refine CT.mono ?_
  rintro e w' ⟨rfl, rfl⟩
  clear CS CT
  have C := pushOk HT3.out 1 (by simp <;> omega)
  go_wp2_with fail
  refine C.mono ?_
  clear C
  rintro e w4 ⟨rfl, F', t4, wr, _⟩
  have CS := mostAny (HS3.out.apart wr HA.out)
  have HB4 := Lib.hid (HB3.out.trans (wr.below (B := w.heap.size) HB3.out.size (fun g hg => Nat.le_trans HL.out hg.1)))
  clear wr t4
  go_wp2_with (go_at_call 20; refine CS.mono ?_; rintro e w' ⟨rfl, rfl⟩)
  go_ret
  exact ⟨rfl, HB4.out⟩

set_option maxRecDepth 100000 in
set_option maxHeartbeats 3200000 in
theorem most_hiNeg (most k : Int) (hm : 1000 < most) (hk : k < 0) (kl : -32768 ≤ k) (kh : k ≤ 32767) (w : World) :
    Calls Try.prog 8 #[.int .i64 most, .int .i16 k] w fun e w' => e = .returned (.bool true) ∧ Below w.heap.size w w' := by
  have HM := Lib.hid (show mostOf most = 1000 from by unfold mostOf; rw [if_neg (by omega), if_pos hm])
  have HK := Lib.hid (show mostOf k = 0 from by unfold mostOf; rw [if_pos hk])
  go_enter Try.func8, Try.ntmps8
  go_wp2_with fail
  refine (newAny most w).mono ?_
  rintro e w1 ⟨rfl, s1, b1⟩
  rw [HM.out] at s1
  have HS1 := Lib.hid s1
  have HB1 := Lib.hid b1
  clear s1 b1
  go_wp2_with fail
  refine (newAny k w1).mono ?_
  rintro e w2 ⟨rfl, t2, b2⟩
  rw [HK.out] at t2
  have HS2 := Lib.hid (HS1.out.fresh b2)
  have HT2 := Lib.hid t2
  have HB2 := Lib.hid (HB1.out.trans (b2.mono HB1.out.size))
  clear t2 b2 HS1 HB1
  go_wp2_with fail
  refine (known w2).mono ?_
  rintro e w3 ⟨rfl, b3⟩
  have HS3 := Lib.hid (HS2.out.fresh b3)
  have HT3 := Lib.hid (HT2.out.fresh b3)
  have HB3 := Lib.hid (HB2.out.trans (b3.mono HB2.out.size))
  clear b3 HS2 HB2
  have CS := mostAny HS3.out
  have CT := mostAny HT3.out
  go_wp2_with fail
  refine CS.mono ?_
  rintro e w' ⟨rfl, rfl⟩
  go_wp2_with fail
  refine CS.mono ?_
  rintro e w' ⟨rfl, rfl⟩
  go_wp2_with fail
  refine CT.mono ?_
  rintro e w' ⟨rfl, rfl⟩
  clear CS CT
  go_wp2_with fail
  refine (pushFull HT3.out 1 (by simp)).mono ?_
  rintro e w' ⟨rfl, rfl⟩
  have CS := mostAny HS3.out
  go_wp2_with (go_at_call 20; refine CS.mono ?_; rintro e w' ⟨rfl, rfl⟩)
  go_ret
  exact ⟨rfl, HB3.out⟩

set_option maxRecDepth 100000 in
set_option maxHeartbeats 3200000 in
theorem most_hiZero (most k : Int) (hm : 1000 < most) (hk : k = 0) (kl : -32768 ≤ k) (kh : k ≤ 32767) (w : World) :
    Calls Try.prog 8 #[.int .i64 most, .int .i16 k] w fun e w' => e = .returned (.bool true) ∧ Below w.heap.size w w' := by
  have HM := Lib.hid (show mostOf most = 1000 from by unfold mostOf; rw [if_neg (by omega), if_pos hm])
  have HK := Lib.hid (show mostOf k = 0 from by subst hk; decide)
  subst hk
  clear kl kh
  go_enter Try.func8, Try.ntmps8
  go_wp2_with fail
  refine (newAny most w).mono ?_
  rintro e w1 ⟨rfl, s1, b1⟩
  rw [HM.out] at s1
  have HS1 := Lib.hid s1
  have HB1 := Lib.hid b1
  clear s1 b1
  go_wp2_with fail
  refine (newAny 0 w1).mono ?_
  rintro e w2 ⟨rfl, t2, b2⟩
  rw [HK.out] at t2
  have HS2 := Lib.hid (HS1.out.fresh b2)
  have HT2 := Lib.hid t2
  have HB2 := Lib.hid (HB1.out.trans (b2.mono HB1.out.size))
  clear t2 b2 HS1 HB1
  go_wp2_with fail
  refine (known w2).mono ?_
  rintro e w3 ⟨rfl, b3⟩
  have HS3 := Lib.hid (HS2.out.fresh b3)
  have HT3 := Lib.hid (HT2.out.fresh b3)
  have HB3 := Lib.hid (HB2.out.trans (b3.mono HB2.out.size))
  clear b3 HS2 HB2
  have CS := mostAny HS3.out
  have CT := mostAny HT3.out
  go_wp2_with fail
  refine CS.mono ?_
  rintro e w' ⟨rfl, rfl⟩
  go_wp2_with fail
  refine CS.mono ?_
  rintro e w' ⟨rfl, rfl⟩
  go_wp2_with fail
  refine CT.mono ?_
  rintro e w' ⟨rfl, rfl⟩
  clear CS CT
  go_wp2_with fail
  refine (pushFull HT3.out 1 (by simp)).mono ?_
  rintro e w' ⟨rfl, rfl⟩
  have CS := mostAny HS3.out
  go_wp2_with (go_at_call 20; refine CS.mono ?_; rintro e w' ⟨rfl, rfl⟩)
  go_ret
  exact ⟨rfl, HB3.out⟩

set_option maxRecDepth 100000 in
set_option maxHeartbeats 3200000 in
theorem most_hiIn (most k : Int) (hm : 1000 < most) (k0 : 0 < k) (k1 : k ≤ 1000) (kl : -32768 ≤ k) (kh : k ≤ 32767) (w : World) :
    Calls Try.prog 8 #[.int .i64 most, .int .i16 k] w fun e w' => e = .returned (.bool true) ∧ Below w.heap.size w w' := by
  have HM := Lib.hid (show mostOf most = 1000 from by unfold mostOf; rw [if_neg (by omega), if_pos hm])
  have HK := Lib.hid (show mostOf k = k from mostOf_self k (by omega) k1)
  go_enter Try.func8, Try.ntmps8
  go_wp2_with fail
  refine (newAny most w).mono ?_
  rintro e w1 ⟨rfl, s1, b1⟩
  rw [HM.out] at s1
  have HS1 := Lib.hid s1
  have HB1 := Lib.hid b1
  clear s1 b1
  go_wp2_with fail
  refine (newAny k w1).mono ?_
  rintro e w2 ⟨rfl, t2, b2⟩
  rw [HK.out] at t2
  have HS2 := Lib.hid (HS1.out.fresh b2)
  have HT2 := Lib.hid t2
  have HA := Lib.hid (New.apart (w := w1) (w' := w2) HS1.out.foot)
  have HB2 := Lib.hid (HB1.out.trans (b2.mono HB1.out.size))
  have HL := Lib.hid HB1.out.size
  clear t2 b2 HS1 HB1
  go_wp2_with fail
  refine (known w2).mono ?_
  rintro e w3 ⟨rfl, b3⟩
  have HS3 := Lib.hid (HS2.out.fresh b3)
  have HT3 := Lib.hid (HT2.out.fresh b3)
  have HB3 := Lib.hid (HB2.out.trans (b3.mono HB2.out.size))
  clear b3 HS2 HB2
  have CS := mostAny HS3.out
  have CT := mostAny HT3.out
  go_wp2_with fail
  refine CS.mono ?_
  rintro e w' ⟨rfl, rfl⟩
  go_wp2_with fail
  refine CS.mono ?_
  rintro e w' ⟨rfl, rfl⟩
  go_wp2_with fail
  refine CT.mono ?_
  rintro e w' ⟨rfl, rfl⟩
  clear CS CT
  have C := pushOk HT3.out 1 (by simp <;> omega)
  go_wp2_with fail
  refine C.mono ?_
  clear C
  rintro e w4 ⟨rfl, F', t4, wr, _⟩
  have CS := mostAny (HS3.out.apart wr HA.out)
  have HB4 := Lib.hid (HB3.out.trans (wr.below (B := w.heap.size) HB3.out.size (fun g hg => Nat.le_trans HL.out hg.1)))
  clear wr t4
  go_wp2_with (go_at_call 20; refine CS.mono ?_; rintro e w' ⟨rfl, rfl⟩)
  go_ret
  exact ⟨rfl, HB4.out⟩

set_option maxRecDepth 100000 in
set_option maxHeartbeats 3200000 in
theorem most_hiHi (most k : Int) (hm : 1000 < most) (hk : 1000 < k) (kl : -32768 ≤ k) (kh : k ≤ 32767) (w : World) :
    Calls Try.prog 8 #[.int .i64 most, .int .i16 k] w fun e w' => e = .returned (.bool true) ∧ Below w.heap.size w w' := by
  have HM := Lib.hid (show mostOf most = 1000 from by unfold mostOf; rw [if_neg (by omega), if_pos hm])
  have HK := Lib.hid (show mostOf k = 1000 from by unfold mostOf; rw [if_neg (by omega), if_pos hk])
  go_enter Try.func8, Try.ntmps8
  go_wp2_with fail
  refine (newAny most w).mono ?_
  rintro e w1 ⟨rfl, s1, b1⟩
  rw [HM.out] at s1
  have HS1 := Lib.hid s1
  have HB1 := Lib.hid b1
  clear s1 b1
  go_wp2_with fail
  refine (newAny k w1).mono ?_
  rintro e w2 ⟨rfl, t2, b2⟩
  rw [HK.out] at t2
  have HS2 := Lib.hid (HS1.out.fresh b2)
  have HT2 := Lib.hid t2
  have HA := Lib.hid (New.apart (w := w1) (w' := w2) HS1.out.foot)
  have HB2 := Lib.hid (HB1.out.trans (b2.mono HB1.out.size))
  have HL := Lib.hid HB1.out.size
  clear t2 b2 HS1 HB1
  go_wp2_with fail
  refine (known w2).mono ?_
  rintro e w3 ⟨rfl, b3⟩
  have HS3 := Lib.hid (HS2.out.fresh b3)
  have HT3 := Lib.hid (HT2.out.fresh b3)
  have HB3 := Lib.hid (HB2.out.trans (b3.mono HB2.out.size))
  clear b3 HS2 HB2
  have CS := mostAny HS3.out
  have CT := mostAny HT3.out
  go_wp2_with fail
  refine CS.mono ?_
  rintro e w' ⟨rfl, rfl⟩
  go_wp2_with fail
  refine CS.mono ?_
  rintro e w' ⟨rfl, rfl⟩
  go_wp2_with fail
  refine CT.mono ?_
  rintro e w' ⟨rfl, rfl⟩
  clear CS CT
  have C := pushOk HT3.out 1 (by simp <;> omega)
  go_wp2_with fail
  refine C.mono ?_
  clear C
  rintro e w4 ⟨rfl, F', t4, wr, _⟩
  have CS := mostAny (HS3.out.apart wr HA.out)
  have HB4 := Lib.hid (HB3.out.trans (wr.below (B := w.heap.size) HB3.out.size (fun g hg => Nat.le_trans HL.out hg.1)))
  clear wr t4
  go_wp2_with (go_at_call 20; refine CS.mono ?_; rintro e w' ⟨rfl, rfl⟩)
  go_ret
  exact ⟨rfl, HB4.out⟩

set_option maxRecDepth 100000 in
set_option maxHeartbeats 3200000 in
theorem most_inNeg (most k : Int) (m0 : 0 ≤ most) (m1 : most ≤ 1000) (hk : k < 0) (kl : -32768 ≤ k) (kh : k ≤ 32767) (w : World) :
    Calls Try.prog 8 #[.int .i64 most, .int .i16 k] w fun e w' => e = .returned (.bool true) ∧ Below w.heap.size w w' := by
  have HM := Lib.hid (show mostOf most = most from mostOf_self most m0 m1)
  have HK := Lib.hid (show mostOf k = 0 from by unfold mostOf; rw [if_pos hk])
  go_enter Try.func8, Try.ntmps8
  go_wp2_with fail
  refine (newAny most w).mono ?_
  rintro e w1 ⟨rfl, s1, b1⟩
  rw [HM.out] at s1
  have HS1 := Lib.hid s1
  have HB1 := Lib.hid b1
  clear s1 b1
  go_wp2_with fail
  refine (newAny k w1).mono ?_
  rintro e w2 ⟨rfl, t2, b2⟩
  rw [HK.out] at t2
  have HS2 := Lib.hid (HS1.out.fresh b2)
  have HT2 := Lib.hid t2
  have HB2 := Lib.hid (HB1.out.trans (b2.mono HB1.out.size))
  clear t2 b2 HS1 HB1
  go_wp2_with fail
  refine (known w2).mono ?_
  rintro e w3 ⟨rfl, b3⟩
  have HS3 := Lib.hid (HS2.out.fresh b3)
  have HT3 := Lib.hid (HT2.out.fresh b3)
  have HB3 := Lib.hid (HB2.out.trans (b3.mono HB2.out.size))
  clear b3 HS2 HB2
  have CS := mostAny HS3.out
  have CT := mostAny HT3.out
  go_wp2_with fail
  refine CS.mono ?_
  rintro e w' ⟨rfl, rfl⟩
  go_wp2_with fail
  refine CS.mono ?_
  rintro e w' ⟨rfl, rfl⟩
  go_wp2_with fail
  refine CT.mono ?_
  rintro e w' ⟨rfl, rfl⟩
  clear CS CT
  go_wp2_with fail
  refine (pushFull HT3.out 1 (by simp)).mono ?_
  rintro e w' ⟨rfl, rfl⟩
  have CS := mostAny HS3.out
  go_wp2_with (go_at_call 20; refine CS.mono ?_; rintro e w' ⟨rfl, rfl⟩)
  go_ret
  exact ⟨rfl, HB3.out⟩

set_option maxRecDepth 100000 in
set_option maxHeartbeats 3200000 in
theorem most_inZero (most k : Int) (m0 : 0 ≤ most) (m1 : most ≤ 1000) (hk : k = 0) (kl : -32768 ≤ k) (kh : k ≤ 32767) (w : World) :
    Calls Try.prog 8 #[.int .i64 most, .int .i16 k] w fun e w' => e = .returned (.bool true) ∧ Below w.heap.size w w' := by
  have HM := Lib.hid (show mostOf most = most from mostOf_self most m0 m1)
  have HK := Lib.hid (show mostOf k = 0 from by subst hk; decide)
  subst hk
  clear kl kh
  go_enter Try.func8, Try.ntmps8
  go_wp2_with fail
  refine (newAny most w).mono ?_
  rintro e w1 ⟨rfl, s1, b1⟩
  rw [HM.out] at s1
  have HS1 := Lib.hid s1
  have HB1 := Lib.hid b1
  clear s1 b1
  go_wp2_with fail
  refine (newAny 0 w1).mono ?_
  rintro e w2 ⟨rfl, t2, b2⟩
  rw [HK.out] at t2
  have HS2 := Lib.hid (HS1.out.fresh b2)
  have HT2 := Lib.hid t2
  have HB2 := Lib.hid (HB1.out.trans (b2.mono HB1.out.size))
  clear t2 b2 HS1 HB1
  go_wp2_with fail
  refine (known w2).mono ?_
  rintro e w3 ⟨rfl, b3⟩
  have HS3 := Lib.hid (HS2.out.fresh b3)
  have HT3 := Lib.hid (HT2.out.fresh b3)
  have HB3 := Lib.hid (HB2.out.trans (b3.mono HB2.out.size))
  clear b3 HS2 HB2
  have CS := mostAny HS3.out
  have CT := mostAny HT3.out
  go_wp2_with fail
  refine CS.mono ?_
  rintro e w' ⟨rfl, rfl⟩
  go_wp2_with fail
  refine CS.mono ?_
  rintro e w' ⟨rfl, rfl⟩
  go_wp2_with fail
  refine CT.mono ?_
  rintro e w' ⟨rfl, rfl⟩
  clear CS CT
  go_wp2_with fail
  refine (pushFull HT3.out 1 (by simp)).mono ?_
  rintro e w' ⟨rfl, rfl⟩
  have CS := mostAny HS3.out
  go_wp2_with (go_at_call 20; refine CS.mono ?_; rintro e w' ⟨rfl, rfl⟩)
  go_ret
  exact ⟨rfl, HB3.out⟩

set_option maxRecDepth 100000 in
set_option maxHeartbeats 3200000 in
theorem most_inIn (most k : Int) (m0 : 0 ≤ most) (m1 : most ≤ 1000) (k0 : 0 < k) (k1 : k ≤ 1000) (kl : -32768 ≤ k) (kh : k ≤ 32767) (w : World) :
    Calls Try.prog 8 #[.int .i64 most, .int .i16 k] w fun e w' => e = .returned (.bool true) ∧ Below w.heap.size w w' := by
  have HM := Lib.hid (show mostOf most = most from mostOf_self most m0 m1)
  have HK := Lib.hid (show mostOf k = k from mostOf_self k (by omega) k1)
  go_enter Try.func8, Try.ntmps8
  go_wp2_with fail
  refine (newAny most w).mono ?_
  rintro e w1 ⟨rfl, s1, b1⟩
  rw [HM.out] at s1
  have HS1 := Lib.hid s1
  have HB1 := Lib.hid b1
  clear s1 b1
  go_wp2_with fail
  refine (newAny k w1).mono ?_
  rintro e w2 ⟨rfl, t2, b2⟩
  rw [HK.out] at t2
  have HS2 := Lib.hid (HS1.out.fresh b2)
  have HT2 := Lib.hid t2
  have HA := Lib.hid (New.apart (w := w1) (w' := w2) HS1.out.foot)
  have HB2 := Lib.hid (HB1.out.trans (b2.mono HB1.out.size))
  have HL := Lib.hid HB1.out.size
  clear t2 b2 HS1 HB1
  go_wp2_with fail
  refine (known w2).mono ?_
  rintro e w3 ⟨rfl, b3⟩
  have HS3 := Lib.hid (HS2.out.fresh b3)
  have HT3 := Lib.hid (HT2.out.fresh b3)
  have HB3 := Lib.hid (HB2.out.trans (b3.mono HB2.out.size))
  clear b3 HS2 HB2
  have CS := mostAny HS3.out
  have CT := mostAny HT3.out
  go_wp2_with fail
  refine CS.mono ?_
  rintro e w' ⟨rfl, rfl⟩
  go_wp2_with fail
  refine CS.mono ?_
  rintro e w' ⟨rfl, rfl⟩
  go_wp2_with fail
  refine CT.mono ?_
  rintro e w' ⟨rfl, rfl⟩
  clear CS CT
  have C := pushOk HT3.out 1 (by simp <;> omega)
  go_wp2_with fail
  refine C.mono ?_
  clear C
  rintro e w4 ⟨rfl, F', t4, wr, _⟩
  have CS := mostAny (HS3.out.apart wr HA.out)
  have HB4 := Lib.hid (HB3.out.trans (wr.below (B := w.heap.size) HB3.out.size (fun g hg => Nat.le_trans HL.out hg.1)))
  clear wr t4
  go_wp2_with (go_at_call 20; refine CS.mono ?_; rintro e w' ⟨rfl, rfl⟩)
  go_ret
  exact ⟨rfl, HB4.out⟩

set_option maxRecDepth 100000 in
set_option maxHeartbeats 3200000 in
theorem most_inHi (most k : Int) (m0 : 0 ≤ most) (m1 : most ≤ 1000) (hk : 1000 < k) (kl : -32768 ≤ k) (kh : k ≤ 32767) (w : World) :
    Calls Try.prog 8 #[.int .i64 most, .int .i16 k] w fun e w' => e = .returned (.bool true) ∧ Below w.heap.size w w' := by
  have HM := Lib.hid (show mostOf most = most from mostOf_self most m0 m1)
  have HK := Lib.hid (show mostOf k = 1000 from by unfold mostOf; rw [if_neg (by omega), if_pos hk])
  go_enter Try.func8, Try.ntmps8
  go_wp2_with fail
  refine (newAny most w).mono ?_
  rintro e w1 ⟨rfl, s1, b1⟩
  rw [HM.out] at s1
  have HS1 := Lib.hid s1
  have HB1 := Lib.hid b1
  clear s1 b1
  go_wp2_with fail
  refine (newAny k w1).mono ?_
  rintro e w2 ⟨rfl, t2, b2⟩
  rw [HK.out] at t2
  have HS2 := Lib.hid (HS1.out.fresh b2)
  have HT2 := Lib.hid t2
  have HA := Lib.hid (New.apart (w := w1) (w' := w2) HS1.out.foot)
  have HB2 := Lib.hid (HB1.out.trans (b2.mono HB1.out.size))
  have HL := Lib.hid HB1.out.size
  clear t2 b2 HS1 HB1
  go_wp2_with fail
  refine (known w2).mono ?_
  rintro e w3 ⟨rfl, b3⟩
  have HS3 := Lib.hid (HS2.out.fresh b3)
  have HT3 := Lib.hid (HT2.out.fresh b3)
  have HB3 := Lib.hid (HB2.out.trans (b3.mono HB2.out.size))
  clear b3 HS2 HB2
  have CS := mostAny HS3.out
  have CT := mostAny HT3.out
  go_wp2_with fail
  refine CS.mono ?_
  rintro e w' ⟨rfl, rfl⟩
  go_wp2_with fail
  refine CS.mono ?_
  rintro e w' ⟨rfl, rfl⟩
  go_wp2_with fail
  refine CT.mono ?_
  rintro e w' ⟨rfl, rfl⟩
  clear CS CT
  have C := pushOk HT3.out 1 (by simp <;> omega)
  go_wp2_with fail
  refine C.mono ?_
  clear C
  rintro e w4 ⟨rfl, F', t4, wr, _⟩
  have CS := mostAny (HS3.out.apart wr HA.out)
  have HB4 := Lib.hid (HB3.out.trans (wr.below (B := w.heap.size) HB3.out.size (fun g hg => Nat.le_trans HL.out hg.1)))
  clear wr t4
  go_wp2_with (go_at_call 20; refine CS.mono ?_; rintro e w' ⟨rfl, rfl⟩)
  go_ret
  exact ⟨rfl, HB4.out⟩

theorem mostWalk (most k : Int) (_ : -9223372036854775808 ≤ most) (_ : most ≤ 9223372036854775807) (kl : -32768 ≤ k) (kh : k ≤ 32767) (w : World) :
    Calls Try.prog 8 #[.int .i64 most, .int .i16 k] w fun e w' => e = .returned (.bool true) ∧ Below w.heap.size w w' := by
  rcases (show most < 0 ∨ 1000 < most ∨ (0 ≤ most ∧ most ≤ 1000) from by omega) with hm | hm | ⟨m0, m1⟩ <;> rcases (show k < 0 ∨ k = 0 ∨ (0 < k ∧ k ≤ 1000) ∨ 1000 < k from by omega) with hk | hk | ⟨k0, k1⟩ | hk
  · exact most_loNeg most k hm hk kl kh w
  · exact most_loZero most k hm hk kl kh w
  · exact most_loIn most k hm k0 k1 kl kh w
  · exact most_loHi most k hm hk kl kh w
  · exact most_hiNeg most k hm hk kl kh w
  · exact most_hiZero most k hm hk kl kh w
  · exact most_hiIn most k hm k0 k1 kl kh w
  · exact most_hiHi most k hm hk kl kh w
  · exact most_inNeg most k m0 m1 hk kl kh w
  · exact most_inZero most k m0 m1 hk kl kh w
  · exact most_inIn most k m0 m1 k0 k1 kl kh w
  · exact most_inHi most k m0 m1 hk kl kh w

end Go.Proofs.Ytjelmaabbediiaa
