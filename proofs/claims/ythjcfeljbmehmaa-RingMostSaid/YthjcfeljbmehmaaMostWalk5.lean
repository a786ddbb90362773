/-
  The walk of RingMost: for all numbers it answers true and leaves all old memory as it was.
-/
import Derived.Test.YthjcfeljbmehmaaRngRun
namespace Go.Proofs.Ythjcfeljbmehmaa
open Go.RowKit

/-- What holds at the head of each push. -/
def MostRel (a : World) (q : Nat) (n : Int) (m : Nat) (v : Int) (i : Value) (wr : World) : Prop :=
  ∃ j : Nat, i = .int .i64 j ∧ (j : Int) ≤ n + 40 ∧ Rng1 wr a.heap.size q m (List.replicate (min j m) v) ∧ Below a.heap.size a wr
theorem MostRel.next {a w3 : World} {q m j : Nat} {n v : Int} (h : (j : Int) < n + 3) (hjm : j < m) (s : Rng1 w3 a.heap.size q m (v :: List.replicate (min j m) v)) (b : Below a.heap.size a w3) : MostRel a q n m v (.int .i64 ((j : Int) + 1)) w3 := by
  refine ⟨j + 1, by go_num, by omega, ?_, b⟩
  rw [Nat.min_eq_left (by omega)] at s ⊢
  rwa [List.replicate_succ]
theorem MostRel.same {a w3 : World} {q m j : Nat} {n v : Int} (h : (j : Int) < n + 3) (hjm : m ≤ j) (s : Rng1 w3 a.heap.size q m (List.replicate (min j m) v)) (b : Below a.heap.size a w3) : MostRel a q n m v (.int .i64 ((j : Int) + 1)) w3 := by
  refine ⟨j + 1, by go_num, by omega, ?_, b⟩
  rw [Nat.min_eq_right (by omega)] at s ⊢
  exact s
theorem pushLFull1 {w : World} {B p : Nat} {most : Int} {zs : List Int} (h : Rng1 w B p most zs) (x : Int) (hf : ¬ (zs.length : Int) < most) :
    Calls Try.prog 25 #[.pointer (some ⟨p, 0, none⟩), .int .i32 x] w fun e w' => e = .returned (.bool false) ∧ w = w' := by
  obtain ⟨F, s, _⟩ := h; exact pushLFull s x hf
theorem pushRFull1 {w : World} {B p : Nat} {most : Int} {zs : List Int} (h : Rng1 w B p most zs) (x : Int) (hf : ¬ (zs.length : Int) < most) :
    Calls Try.prog 19 #[.pointer (some ⟨p, 0, none⟩), .int .i32 x] w fun e w' => e = .returned (.bool false) ∧ w = w' := by
  obtain ⟨F, s, _⟩ := h; exact pushRFull s x hf
theorem tmod_neg {k : Int} (hk : k < 0) : ∃ n : Int, wrap64 (k.tmod 40) = n ∧ -40 < n ∧ n ≤ 0 := by
  obtain ⟨u, rfl⟩ : ∃ u, k = -u := ⟨-k, by omega⟩
  refine ⟨-(u % 40), ?_, by omega, by omega⟩
  rw [Int.neg_tmod, Int.tmod_eq_emod_of_nonneg (by omega)]
  unfold wrap64
  omega

set_option maxRecDepth 100000 in
set_option maxHeartbeats 3200000 in
theorem mostNegNeg (most k v : Int) (n : Int) (hk : k < 0) (hn : wrap64 (k.tmod 40) = n) (n1 : -40 < n) (n2 : n < 0) (kl : -32768 ≤ k) (kh : k ≤ 32767) (w : World) :
    Calls Try.prog 9 #[.int .i64 most, .int .i16 k, .int .i32 v] w fun e w' => e = .returned (.bool true) ∧ Below w.heap.size w w' := by
  have kb := And.intro kl kh
  clear kb
  have HK := Lib.hid (show mostOf k = 0 from by unfold mostOf; rw [if_pos hk])
  have HN := Lib.hid hn
  clear hn
  obtain ⟨m, hm⟩ : ∃ m : Nat, m = 0 := ⟨_, rfl⟩
  have HM := Lib.hid (show mostOf n = (m : Int) from by unfold mostOf; rw [if_pos n2, hm]; rfl)
  go_enter Try.func9, Try.ntmps9
  go_wp2_with fail
  refine (newAny most w).mono ?_
  rintro e w1 ⟨qr, rfl, s1, b1⟩
  have hM := mostOf_in most
  generalize mostOf most = M at *
  obtain ⟨hM0, hM1⟩ := hM
  have HS1 := Lib.hid s1
  have HB1 := Lib.hid b1
  clear s1 b1
  go_wp2_with fail
  refine (newAny k w1).mono ?_
  rintro e w2 ⟨qt, rfl, s2, b2⟩
  rw [HK.out] at s2
  have HS2 := Lib.hid (HS1.out.fresh b2)
  have HT2 := Lib.hid s2
  have HB2 := Lib.hid (HB1.out.trans (b2.mono HB1.out.size))
  clear s2 b2 HS1 HB1 HK
  go_wp2_with fail
  try rw [HN.out]
  clear HN
  refine (new1 n w2).mono ?_
  rintro e w3 ⟨q, rfl, s3, b3⟩
  rw [HM.out] at s3
  have HS := Lib.hid (show MostRel w2 q n m v (.int .i64 0) w3 from ⟨0, rfl, by omega, by simpa using s3, b3⟩)
  clear s3 b3 HM
  go_wp2
  go_loopw [11] (fun i wr => MostRel w2 q n m v i wr) (fun i _ => (n + 3 - intOf i).toNat)
  case atStart => exact HS.out
  case round =>
    obtain ⟨j, rfl, hj, ha, hb⟩ := hrel
    have HA := Lib.hid ha
    have HB := Lib.hid hb
    clear ha hb HS
    by_cases hlt : (j : Int) < n + 3
    · by_cases hjn : (j : Int) < n
      · have C := pushL1 HA.out v (by rw [List.length_replicate]; omega)
        go_wp2_with fail
        refine C.mono ?_
        clear C
        rintro e w4 ⟨rfl, s4, b4⟩
        have H4 := Lib.hid (MostRel.next (n := n) hlt (by omega) s4 (HB.out.trans b4))
        clear s4 b4
        go_wp2
        go_roundw
        case rel => exact H4.out
        case measure => simp [intOf]; omega
      · have C := pushLFull1 HA.out v (by rw [List.length_replicate]; omega)
        have H4 := Lib.hid (MostRel.same (n := n) hlt (by omega) HA.out HB.out)
        go_wp2_with fail
        refine C.mono ?_
        clear C
        rintro e w' ⟨rfl, rfl⟩
        go_wp2
        go_roundw
        case rel => exact H4.out
        case measure => simp [intOf]; omega
    · have hjm : m ≤ j := by omega
      have HL := Lib.hid (show Rng1 wr w2.heap.size q m (List.replicate m v) from by have := HA.out; rwa [Nat.min_eq_right hjm] at this)
      clear HA hjm
      go_wp2_with fail
      refine (known wr).mono ?_
      rintro e w5 ⟨rfl, b5⟩
      have HBB := Lib.hid (HB.out.trans (b5.mono HB.out.size))
      have HL5 := Lib.hid (HL.out.fresh b5)
      have CR := mostAny (HS2.out.fresh HBB.out)
      have CT := mostAny (HT2.out.fresh HBB.out)
      have CL := len1 HL5.out
      have CP := pushRFull1 HL5.out v (by rw [List.length_replicate]; omega)
      rw [List.length_replicate] at CL
      clear b5 HL
      go_wp2_with fail
      refine CR.mono ?_
      rintro e w' ⟨rfl, rfl⟩
      go_wp2_with fail
      refine CR.mono ?_
      rintro e w' ⟨rfl, rfl⟩
      go_wp2_with fail
      refine CT.mono ?_
      rintro e w' ⟨rfl, rfl⟩
      clear CR CT
      go_wp2_with fail
      refine CP.mono ?_
      rintro e w' ⟨rfl, rfl⟩
      clear CP
      go_wp2_with fail
      refine CL.mono ?_
      rintro e w' ⟨rfl, rfl⟩
      clear CL
      go_wp2
      go_ret
      exact ⟨rfl, HB2.out.trans (HBB.out.mono HB2.out.size)⟩

set_option maxRecDepth 100000 in
set_option maxHeartbeats 3200000 in
theorem mostNegZero (most k v : Int) (hk : k < 0) (hn : wrap64 (k.tmod 40) = 0) (kl : -32768 ≤ k) (kh : k ≤ 32767) (w : World) :
    Calls Try.prog 9 #[.int .i64 most, .int .i16 k, .int .i32 v] w fun e w' => e = .returned (.bool true) ∧ Below w.heap.size w w' := by
  have kb := And.intro kl kh
  clear kb
  have HK := Lib.hid (show mostOf k = 0 from by unfold mostOf; rw [if_pos hk])
  have HN := Lib.hid hn
  clear hn
  obtain ⟨m, hm⟩ : ∃ m : Nat, m = 0 := ⟨_, rfl⟩
  have HM := Lib.hid (show mostOf 0 = (m : Int) from by rw [hm]; rfl)
  go_enter Try.func9, Try.ntmps9
  go_wp2_with fail
  refine (newAny most w).mono ?_
  rintro e w1 ⟨qr, rfl, s1, b1⟩
  have hM := mostOf_in most
  generalize mostOf most = M at *
  obtain ⟨hM0, hM1⟩ := hM
  have HS1 := Lib.hid s1
  have HB1 := Lib.hid b1
  clear s1 b1
  go_wp2_with fail
  refine (newAny k w1).mono ?_
  rintro e w2 ⟨qt, rfl, s2, b2⟩
  rw [HK.out] at s2
  have HS2 := Lib.hid (HS1.out.fresh b2)
  have HT2 := Lib.hid s2
  have HB2 := Lib.hid (HB1.out.trans (b2.mono HB1.out.size))
  clear s2 b2 HS1 HB1 HK
  go_wp2_with fail
  try rw [HN.out]
  clear HN
  refine (new1 0 w2).mono ?_
  rintro e w3 ⟨q, rfl, s3, b3⟩
  rw [HM.out] at s3
  have HS := Lib.hid (show MostRel w2 q 0 m v (.int .i64 0) w3 from ⟨0, rfl, by omega, by simpa using s3, b3⟩)
  clear s3 b3 HM
  go_wp2
  go_loopw [11] (fun i wr => MostRel w2 q 0 m v i wr) (fun i _ => (0 + 3 - intOf i).toNat)
  case atStart => exact HS.out
  case round =>
    obtain ⟨j, rfl, hj, ha, hb⟩ := hrel
    have HA := Lib.hid ha
    have HB := Lib.hid hb
    clear ha hb HS
    by_cases hlt : (j : Int) < 0 + 3
    · by_cases hjn : (j : Int) < 0
      · exact absurd hjn (by omega)
      · have C := pushLFull1 HA.out v (by rw [List.length_replicate]; omega)
        have H4 := Lib.hid (MostRel.same (n := 0) hlt (by omega) HA.out HB.out)
        go_wp2_with fail
        refine C.mono ?_
        clear C
        rintro e w' ⟨rfl, rfl⟩
        go_wp2
        go_roundw
        case rel => exact H4.out
        case measure => simp [intOf]; omega
    · have hjm : m ≤ j := by omega
      have HL := Lib.hid (show Rng1 wr w2.heap.size q m (List.replicate m v) from by have := HA.out; rwa [Nat.min_eq_right hjm] at this)
      clear HA hjm
      go_wp2_with fail
      refine (known wr).mono ?_
      rintro e w5 ⟨rfl, b5⟩
      have HBB := Lib.hid (HB.out.trans (b5.mono HB.out.size))
      have HL5 := Lib.hid (HL.out.fresh b5)
      have CR := mostAny (HS2.out.fresh HBB.out)
      have CT := mostAny (HT2.out.fresh HBB.out)
      have CL := len1 HL5.out
      have CP := pushRFull1 HL5.out v (by rw [List.length_replicate]; omega)
      rw [List.length_replicate] at CL
      clear b5 HL
      go_wp2_with fail
      refine CR.mono ?_
      rintro e w' ⟨rfl, rfl⟩
      go_wp2_with fail
      refine CR.mono ?_
      rintro e w' ⟨rfl, rfl⟩
      go_wp2_with fail
      refine CT.mono ?_
      rintro e w' ⟨rfl, rfl⟩
      clear CR CT
      go_wp2_with fail
      refine CP.mono ?_
      rintro e w' ⟨rfl, rfl⟩
      clear CP
      go_wp2_with fail
      refine CL.mono ?_
      rintro e w' ⟨rfl, rfl⟩
      clear CL
      go_wp2
      go_ret
      exact ⟨rfl, HB2.out.trans (HBB.out.mono HB2.out.size)⟩

set_option maxRecDepth 100000 in
set_option maxHeartbeats 3200000 in
theorem mostZero (most k v : Int) (hk : k = 0) (kl : -32768 ≤ k) (kh : k ≤ 32767) (w : World) :
    Calls Try.prog 9 #[.int .i64 most, .int .i16 k, .int .i32 v] w fun e w' => e = .returned (.bool true) ∧ Below w.heap.size w w' := by
  have kb := And.intro kl kh
  clear kb
  have HK := Lib.hid (show mostOf 0 = 0 from by decide)
  subst hk
  clear kl kh
  have HN := Lib.hid (show (0 : Int) = 0 from rfl)
  obtain ⟨m, hm⟩ : ∃ m : Nat, m = 0 := ⟨_, rfl⟩
  have HM := Lib.hid (show mostOf 0 = (m : Int) from by rw [hm]; rfl)
  go_enter Try.func9, Try.ntmps9
  go_wp2_with fail
  refine (newAny most w).mono ?_
  rintro e w1 ⟨qr, rfl, s1, b1⟩
  have hM := mostOf_in most
  generalize mostOf most = M at *
  obtain ⟨hM0, hM1⟩ := hM
  have HS1 := Lib.hid s1
  have HB1 := Lib.hid b1
  clear s1 b1
  go_wp2_with fail
  refine (newAny 0 w1).mono ?_
  rintro e w2 ⟨qt, rfl, s2, b2⟩
  rw [HK.out] at s2
  have HS2 := Lib.hid (HS1.out.fresh b2)
  have HT2 := Lib.hid s2
  have HB2 := Lib.hid (HB1.out.trans (b2.mono HB1.out.size))
  clear s2 b2 HS1 HB1 HK
  go_wp2_with fail
  try rw [HN.out]
  clear HN
  refine (new1 0 w2).mono ?_
  rintro e w3 ⟨q, rfl, s3, b3⟩
  rw [HM.out] at s3
  have HS := Lib.hid (show MostRel w2 q 0 m v (.int .i64 0) w3 from ⟨0, rfl, by omega, by simpa using s3, b3⟩)
  clear s3 b3 HM
  go_wp2
  go_loopw [11] (fun i wr => MostRel w2 q 0 m v i wr) (fun i _ => (0 + 3 - intOf i).toNat)
  case atStart => exact HS.out
  case round =>
    obtain ⟨j, rfl, hj, ha, hb⟩ := hrel
    have HA := Lib.hid ha
    have HB := Lib.hid hb
    clear ha hb HS
    by_cases hlt : (j : Int) < 0 + 3
    · by_cases hjn : (j : Int) < 0
      · exact absurd hjn (by omega)
      · have C := pushLFull1 HA.out v (by rw [List.length_replicate]; omega)
        have H4 := Lib.hid (MostRel.same (n := 0) hlt (by omega) HA.out HB.out)
        go_wp2_with fail
        refine C.mono ?_
        clear C
        rintro e w' ⟨rfl, rfl⟩
        go_wp2
        go_roundw
        case rel => exact H4.out
        case measure => simp [intOf]; omega
    · have hjm : m ≤ j := by omega
      have HL := Lib.hid (show Rng1 wr w2.heap.size q m (List.replicate m v) from by have := HA.out; rwa [Nat.min_eq_right hjm] at this)
      clear HA hjm
      go_wp2_with fail
      refine (known wr).mono ?_
      rintro e w5 ⟨rfl, b5⟩
      have HBB := Lib.hid (HB.out.trans (b5.mono HB.out.size))
      have HL5 := Lib.hid (HL.out.fresh b5)
      have CR := mostAny (HS2.out.fresh HBB.out)
      have CT := mostAny (HT2.out.fresh HBB.out)
      have CL := len1 HL5.out
      have CP := pushRFull1 HL5.out v (by rw [List.length_replicate]; omega)
      rw [List.length_replicate] at CL
      clear b5 HL
      go_wp2_with fail
      refine CR.mono ?_
      rintro e w' ⟨rfl, rfl⟩
      go_wp2_with fail
      refine CR.mono ?_
      rintro e w' ⟨rfl, rfl⟩
      go_wp2_with fail
      refine CT.mono ?_
      rintro e w' ⟨rfl, rfl⟩
      clear CR CT
      go_wp2_with fail
      refine CP.mono ?_
      rintro e w' ⟨rfl, rfl⟩
      clear CP
      go_wp2_with fail
      refine CL.mono ?_
      rintro e w' ⟨rfl, rfl⟩
      clear CL
      go_wp2
      go_ret
      exact ⟨rfl, HB2.out.trans (HBB.out.mono HB2.out.size)⟩

set_option maxRecDepth 100000 in
set_option maxHeartbeats 3200000 in
theorem mostInPos (most k v : Int) (n : Int) (k0 : 0 < k) (k1 : k ≤ 1000) (hn : k % 40 = n) (n1 : 0 < n) (n2 : n < 40) (kl : -32768 ≤ k) (kh : k ≤ 32767) (w : World) :
    Calls Try.prog 9 #[.int .i64 most, .int .i16 k, .int .i32 v] w fun e w' => e = .returned (.bool true) ∧ Below w.heap.size w w' := by
  have kb := And.intro kl kh
  clear kb
  have HK := Lib.hid (show mostOf k = k from mostOf_self k (by omega) k1)
  have HN := Lib.hid (show k % 40 = n from hn)
  clear hn
  obtain ⟨m, hm⟩ : ∃ m : Nat, (m : Int) = n := ⟨n.toNat, by omega⟩
  have HM := Lib.hid (show mostOf n = (m : Int) from by rw [hm]; exact mostOf_self n (by omega) (by omega))
  go_enter Try.func9, Try.ntmps9
  go_wp2_with fail
  refine (newAny most w).mono ?_
  rintro e w1 ⟨qr, rfl, s1, b1⟩
  have hM := mostOf_in most
  generalize mostOf most = M at *
  obtain ⟨hM0, hM1⟩ := hM
  have HS1 := Lib.hid s1
  have HB1 := Lib.hid b1
  clear s1 b1
  go_wp2_with fail
  refine (newAny k w1).mono ?_
  rintro e w2 ⟨qt, rfl, s2, b2⟩
  rw [HK.out] at s2
  have HS2 := Lib.hid (HS1.out.fresh b2)
  have HT2 := Lib.hid s2
  have HB2 := Lib.hid (HB1.out.trans (b2.mono HB1.out.size))
  clear s2 b2 HS1 HB1 HK
  go_wp2_with fail
  try rw [HN.out]
  clear HN
  refine (new1 n w2).mono ?_
  rintro e w3 ⟨q, rfl, s3, b3⟩
  rw [HM.out] at s3
  have HS := Lib.hid (show MostRel w2 q n m v (.int .i64 0) w3 from ⟨0, rfl, by omega, by simpa using s3, b3⟩)
  clear s3 b3 HM
  go_wp2
  go_loopw [11] (fun i wr => MostRel w2 q n m v i wr) (fun i _ => (n + 3 - intOf i).toNat)
  case atStart => exact HS.out
  case round =>
    obtain ⟨j, rfl, hj, ha, hb⟩ := hrel
    have HA := Lib.hid ha
    have HB := Lib.hid hb
    clear ha hb HS
    by_cases hlt : (j : Int) < n + 3
    · by_cases hjn : (j : Int) < n
      · have C := pushL1 HA.out v (by rw [List.length_replicate]; omega)
        go_wp2_with fail
        refine C.mono ?_
        clear C
        rintro e w4 ⟨rfl, s4, b4⟩
        have H4 := Lib.hid (MostRel.next (n := n) hlt (by omega) s4 (HB.out.trans b4))
        clear s4 b4
        go_wp2
        go_roundw
        case rel => exact H4.out
        case measure => simp [intOf]; omega
      · have C := pushLFull1 HA.out v (by rw [List.length_replicate]; omega)
        have H4 := Lib.hid (MostRel.same (n := n) hlt (by omega) HA.out HB.out)
        go_wp2_with fail
        refine C.mono ?_
        clear C
        rintro e w' ⟨rfl, rfl⟩
        go_wp2
        go_roundw
        case rel => exact H4.out
        case measure => simp [intOf]; omega
    · have hjm : m ≤ j := by omega
      have HL := Lib.hid (show Rng1 wr w2.heap.size q m (List.replicate m v) from by have := HA.out; rwa [Nat.min_eq_right hjm] at this)
      clear HA hjm
      go_wp2_with fail
      refine (known wr).mono ?_
      rintro e w5 ⟨rfl, b5⟩
      have HBB := Lib.hid (HB.out.trans (b5.mono HB.out.size))
      have HL5 := Lib.hid (HL.out.fresh b5)
      have CR := mostAny (HS2.out.fresh HBB.out)
      have CT := mostAny (HT2.out.fresh HBB.out)
      have CL := len1 HL5.out
      have CP := pushRFull1 HL5.out v (by rw [List.length_replicate]; omega)
      rw [List.length_replicate] at CL
      clear b5 HL
      go_wp2_with fail
      refine CR.mono ?_
      rintro e w' ⟨rfl, rfl⟩
      go_wp2_with fail
      refine CR.mono ?_
      rintro e w' ⟨rfl, rfl⟩
      go_wp2_with fail
      refine CT.mono ?_
      rintro e w' ⟨rfl, rfl⟩
      clear CR CT
      go_wp2_with fail
      refine CP.mono ?_
      rintro e w' ⟨rfl, rfl⟩
      clear CP
      go_wp2_with fail
      refine CL.mono ?_
      rintro e w' ⟨rfl, rfl⟩
      clear CL
      go_wp2
      go_ret
      exact ⟨rfl, HB2.out.trans (HBB.out.mono HB2.out.size)⟩

set_option maxRecDepth 100000 in
set_option maxHeartbeats 3200000 in
theorem mostInZero (most k v : Int) (k0 : 0 < k) (k1 : k ≤ 1000) (hn : k % 40 = 0) (kl : -32768 ≤ k) (kh : k ≤ 32767) (w : World) :
    Calls Try.prog 9 #[.int .i64 most, .int .i16 k, .int .i32 v] w fun e w' => e = .returned (.bool true) ∧ Below w.heap.size w w' := by
  have kb := And.intro kl kh
  clear kb
  have HK := Lib.hid (show mostOf k = k from mostOf_self k (by omega) k1)
  have HN := Lib.hid hn
  clear hn
  obtain ⟨m, hm⟩ : ∃ m : Nat, m = 0 := ⟨_, rfl⟩
  have HM := Lib.hid (show mostOf 0 = (m : Int) from by rw [hm]; rfl)
  go_enter Try.func9, Try.ntmps9
  go_wp2_with fail
  refine (newAny most w).mono ?_
  rintro e w1 ⟨qr, rfl, s1, b1⟩
  have hM := mostOf_in most
  generalize mostOf most = M at *
  obtain ⟨hM0, hM1⟩ := hM
  have HS1 := Lib.hid s1
  have HB1 := Lib.hid b1
  clear s1 b1
  go_wp2_with fail
  refine (newAny k w1).mono ?_
  rintro e w2 ⟨qt, rfl, s2, b2⟩
  rw [HK.out] at s2
  have HS2 := Lib.hid (HS1.out.fresh b2)
  have HT2 := Lib.hid s2
  have HB2 := Lib.hid (HB1.out.trans (b2.mono HB1.out.size))
  clear s2 b2 HS1 HB1 HK
  go_wp2_with fail
  try rw [HN.out]
  clear HN
  refine (new1 0 w2).mono ?_
  rintro e w3 ⟨q, rfl, s3, b3⟩
  rw [HM.out] at s3
  have HS := Lib.hid (show MostRel w2 q 0 m v (.int .i64 0) w3 from ⟨0, rfl, by omega, by simpa using s3, b3⟩)
  clear s3 b3 HM
  go_wp2
  go_loopw [11] (fun i wr => MostRel w2 q 0 m v i wr) (fun i _ => (0 + 3 - intOf i).toNat)
  case atStart => exact HS.out
  case round =>
    obtain ⟨j, rfl, hj, ha, hb⟩ := hrel
    have HA := Lib.hid ha
    have HB := Lib.hid hb
    clear ha hb HS
    by_cases hlt : (j : Int) < 0 + 3
    · by_cases hjn : (j : Int) < 0
      · exact absurd hjn (by omega)
      · have C := pushLFull1 HA.out v (by rw [List.length_replicate]; omega)
        have H4 := Lib.hid (MostRel.same (n := 0) hlt (by omega) HA.out HB.out)
        go_wp2_with fail
        refine C.mono ?_
        clear C
        rintro e w' ⟨rfl, rfl⟩
        go_wp2
        go_roundw
        case rel => exact H4.out
        case measure => simp [intOf]; omega
    · have hjm : m ≤ j := by omega
      have HL := Lib.hid (show Rng1 wr w2.heap.size q m (List.replicate m v) from by have := HA.out; rwa [Nat.min_eq_right hjm] at this)
      clear HA hjm
      go_wp2_with fail
      refine (known wr).mono ?_
      rintro e w5 ⟨rfl, b5⟩
      have HBB := Lib.hid (HB.out.trans (b5.mono HB.out.size))
      have HL5 := Lib.hid (HL.out.fresh b5)
      have CR := mostAny (HS2.out.fresh HBB.out)
      have CT := mostAny (HT2.out.fresh HBB.out)
      have CL := len1 HL5.out
      have CP := pushRFull1 HL5.out v (by rw [List.length_replicate]; omega)
      rw [List.length_replicate] at CL
      clear b5 HL
      go_wp2_with fail
      refine CR.mono ?_
      rintro e w' ⟨rfl, rfl⟩
      go_wp2_with fail
      refine CR.mono ?_
      rintro e w' ⟨rfl, rfl⟩
      go_wp2_with fail
      refine CT.mono ?_
      rintro e w' ⟨rfl, rfl⟩
      clear CR CT
      go_wp2_with fail
      refine CP.mono ?_
      rintro e w' ⟨rfl, rfl⟩
      clear CP
      go_wp2_with fail
      refine CL.mono ?_
      rintro e w' ⟨rfl, rfl⟩
      clear CL
      go_wp2
      go_ret
      exact ⟨rfl, HB2.out.trans (HBB.out.mono HB2.out.size)⟩

set_option maxRecDepth 100000 in
set_option maxHeartbeats 3200000 in
theorem mostHiPos (most k v : Int) (n : Int) (hk : 1000 < k) (hn : k % 40 = n) (n1 : 0 < n) (n2 : n < 40) (kl : -32768 ≤ k) (kh : k ≤ 32767) (w : World) :
    Calls Try.prog 9 #[.int .i64 most, .int .i16 k, .int .i32 v] w fun e w' => e = .returned (.bool true) ∧ Below w.heap.size w w' := by
  have kb := And.intro kl kh
  clear kb
  have HK := Lib.hid (show mostOf k = 1000 from by unfold mostOf; rw [if_neg (by omega), if_pos hk])
  have HN := Lib.hid (show k % 40 = n from hn)
  clear hn
  obtain ⟨m, hm⟩ : ∃ m : Nat, (m : Int) = n := ⟨n.toNat, by omega⟩
  have HM := Lib.hid (show mostOf n = (m : Int) from by rw [hm]; exact mostOf_self n (by omega) (by omega))
  go_enter Try.func9, Try.ntmps9
  go_wp2_with fail
  refine (newAny most w).mono ?_
  rintro e w1 ⟨qr, rfl, s1, b1⟩
  have hM := mostOf_in most
  generalize mostOf most = M at *
  obtain ⟨hM0, hM1⟩ := hM
  have HS1 := Lib.hid s1
  have HB1 := Lib.hid b1
  clear s1 b1
  go_wp2_with fail
  refine (newAny k w1).mono ?_
  rintro e w2 ⟨qt, rfl, s2, b2⟩
  rw [HK.out] at s2
  have HS2 := Lib.hid (HS1.out.fresh b2)
  have HT2 := Lib.hid s2
  have HB2 := Lib.hid (HB1.out.trans (b2.mono HB1.out.size))
  clear s2 b2 HS1 HB1 HK
  go_wp2_with fail
  try rw [HN.out]
  clear HN
  refine (new1 n w2).mono ?_
  rintro e w3 ⟨q, rfl, s3, b3⟩
  rw [HM.out] at s3
  have HS := Lib.hid (show MostRel w2 q n m v (.int .i64 0) w3 from ⟨0, rfl, by omega, by simpa using s3, b3⟩)
  clear s3 b3 HM
  go_wp2
  go_loopw [11] (fun i wr => MostRel w2 q n m v i wr) (fun i _ => (n + 3 - intOf i).toNat)
  case atStart => exact HS.out
  case round =>
    obtain ⟨j, rfl, hj, ha, hb⟩ := hrel
    have HA := Lib.hid ha
    have HB := Lib.hid hb
    clear ha hb HS
    by_cases hlt : (j : Int) < n + 3
    · by_cases hjn : (j : Int) < n
      · have C := pushL1 HA.out v (by rw [List.length_replicate]; omega)
        go_wp2_with fail
        refine C.mono ?_
        clear C
        rintro e w4 ⟨rfl, s4, b4⟩
        have H4 := Lib.hid (MostRel.next (n := n) hlt (by omega) s4 (HB.out.trans b4))
        clear s4 b4
        go_wp2
        go_roundw
        case rel => exact H4.out
        case measure => simp [intOf]; omega
      · have C := pushLFull1 HA.out v (by rw [List.length_replicate]; omega)
        have H4 := Lib.hid (MostRel.same (n := n) hlt (by omega) HA.out HB.out)
        go_wp2_with fail
        refine C.mono ?_
        clear C
        rintro e w' ⟨rfl, rfl⟩
        go_wp2
        go_roundw
        case rel => exact H4.out
        case measure => simp [intOf]; omega
    · have hjm : m ≤ j := by omega
      have HL := Lib.hid (show Rng1 wr w2.heap.size q m (List.replicate m v) from by have := HA.out; rwa [Nat.min_eq_right hjm] at this)
      clear HA hjm
      go_wp2_with fail
      refine (known wr).mono ?_
      rintro e w5 ⟨rfl, b5⟩
      have HBB := Lib.hid (HB.out.trans (b5.mono HB.out.size))
      have HL5 := Lib.hid (HL.out.fresh b5)
      have CR := mostAny (HS2.out.fresh HBB.out)
      have CT := mostAny (HT2.out.fresh HBB.out)
      have CL := len1 HL5.out
      have CP := pushRFull1 HL5.out v (by rw [List.length_replicate]; omega)
      rw [List.length_replicate] at CL
      clear b5 HL
      go_wp2_with fail
      refine CR.mono ?_
      rintro e w' ⟨rfl, rfl⟩
      go_wp2_with fail
      refine CR.mono ?_
      rintro e w' ⟨rfl, rfl⟩
      go_wp2_with fail
      refine CT.mono ?_
      rintro e w' ⟨rfl, rfl⟩
      clear CR CT
      go_wp2_with fail
      refine CP.mono ?_
      rintro e w' ⟨rfl, rfl⟩
      clear CP
      go_wp2_with fail
      refine CL.mono ?_
      rintro e w' ⟨rfl, rfl⟩
      clear CL
      go_wp2
      go_ret
      exact ⟨rfl, HB2.out.trans (HBB.out.mono HB2.out.size)⟩

set_option maxRecDepth 100000 in
set_option maxHeartbeats 3200000 in
theorem mostHiZero (most k v : Int) (hk : 1000 < k) (hn : k % 40 = 0) (kl : -32768 ≤ k) (kh : k ≤ 32767) (w : World) :
    Calls Try.prog 9 #[.int .i64 most, .int .i16 k, .int .i32 v] w fun e w' => e = .returned (.bool true) ∧ Below w.heap.size w w' := by
  have kb := And.intro kl kh
  clear kb
  have HK := Lib.hid (show mostOf k = 1000 from by unfold mostOf; rw [if_neg (by omega), if_pos hk])
  have HN := Lib.hid hn
  clear hn
  obtain ⟨m, hm⟩ : ∃ m : Nat, m = 0 := ⟨_, rfl⟩
  have HM := Lib.hid (show mostOf 0 = (m : Int) from by rw [hm]; rfl)
  go_enter Try.func9, Try.ntmps9
  go_wp2_with fail
  refine (newAny most w).mono ?_
  rintro e w1 ⟨qr, rfl, s1, b1⟩
  have hM := mostOf_in most
  generalize mostOf most = M at *
  obtain ⟨hM0, hM1⟩ := hM
  have HS1 := Lib.hid s1
  have HB1 := Lib.hid b1
  clear s1 b1
  go_wp2_with fail
  refine (newAny k w1).mono ?_
  rintro e w2 ⟨qt, rfl, s2, b2⟩
  rw [HK.out] at s2
  have HS2 := Lib.hid (HS1.out.fresh b2)
  have HT2 := Lib.hid s2
  have HB2 := Lib.hid (HB1.out.trans (b2.mono HB1.out.size))
  clear s2 b2 HS1 HB1 HK
  go_wp2_with fail
  try rw [HN.out]
  clear HN
  refine (new1 0 w2).mono ?_
  rintro e w3 ⟨q, rfl, s3, b3⟩
  rw [HM.out] at s3
  have HS := Lib.hid (show MostRel w2 q 0 m v (.int .i64 0) w3 from ⟨0, rfl, by omega, by simpa using s3, b3⟩)
  clear s3 b3 HM
  go_wp2
  go_loopw [11] (fun i wr => MostRel w2 q 0 m v i wr) (fun i _ => (0 + 3 - intOf i).toNat)
  case atStart => exact HS.out
  case round =>
    obtain ⟨j, rfl, hj, ha, hb⟩ := hrel
    have HA := Lib.hid ha
    have HB := Lib.hid hb
    clear ha hb HS
    by_cases hlt : (j : Int) < 0 + 3
    · by_cases hjn : (j : Int) < 0
      · exact absurd hjn (by omega)
      · have C := pushLFull1 HA.out v (by rw [List.length_replicate]; omega)
        have H4 := Lib.hid (MostRel.same (n := 0) hlt (by omega) HA.out HB.out)
        go_wp2_with fail
        refine C.mono ?_
        clear C
        rintro e w' ⟨rfl, rfl⟩
        go_wp2
        go_roundw
        case rel => exact H4.out
        case measure => simp [intOf]; omega
    · have hjm : m ≤ j := by omega
      have HL := Lib.hid (show Rng1 wr w2.heap.size q m (List.replicate m v) from by have := HA.out; rwa [Nat.min_eq_right hjm] at this)
      clear HA hjm
      go_wp2_with fail
      refine (known wr).mono ?_
      rintro e w5 ⟨rfl, b5⟩
      have HBB := Lib.hid (HB.out.trans (b5.mono HB.out.size))
      have HL5 := Lib.hid (HL.out.fresh b5)
      have CR := mostAny (HS2.out.fresh HBB.out)
      have CT := mostAny (HT2.out.fresh HBB.out)
      have CL := len1 HL5.out
      have CP := pushRFull1 HL5.out v (by rw [List.length_replicate]; omega)
      rw [List.length_replicate] at CL
      clear b5 HL
      go_wp2_with fail
      refine CR.mono ?_
      rintro e w' ⟨rfl, rfl⟩
      go_wp2_with fail
      refine CR.mono ?_
      rintro e w' ⟨rfl, rfl⟩
      go_wp2_with fail
      refine CT.mono ?_
      rintro e w' ⟨rfl, rfl⟩
      clear CR CT
      go_wp2_with fail
      refine CP.mono ?_
      rintro e w' ⟨rfl, rfl⟩
      clear CP
      go_wp2_with fail
      refine CL.mono ?_
      rintro e w' ⟨rfl, rfl⟩
      clear CL
      go_wp2
      go_ret
      exact ⟨rfl, HB2.out.trans (HBB.out.mono HB2.out.size)⟩

theorem mostWalk (most k v : Int) (_ : -9223372036854775808 ≤ most) (_ : most ≤ 9223372036854775807) (kl : -32768 ≤ k) (kh : k ≤ 32767) (_ : -2147483648 ≤ v) (_ : v ≤ 2147483647) (w : World) :
    Calls Try.prog 9 #[.int .i64 most, .int .i16 k, .int .i32 v] w fun e w' => e = .returned (.bool true) ∧ Below w.heap.size w w' := by
  rcases (show k < 0 ∨ k = 0 ∨ (0 < k ∧ k ≤ 1000) ∨ 1000 < k from by omega) with hk | hk | ⟨k0, k1⟩ | hk
  · obtain ⟨n, hn, n1, n2⟩ := tmod_neg hk
    rcases (show n < 0 ∨ n = 0 from by omega) with h | h
    · exact mostNegNeg most k v n hk hn n1 h kl kh w
    · subst h; exact mostNegZero most k v hk hn kl kh w
  · exact mostZero most k v hk kl kh w
  · rcases (show k % 40 = 0 ∨ 0 < k % 40 from by omega) with h | h
    · exact mostInZero most k v k0 k1 h kl kh w
    · exact mostInPos most k v _ k0 k1 rfl h (by omega) kl kh w
  · rcases (show k % 40 = 0 ∨ 0 < k % 40 from by omega) with h | h
    · exact mostHiZero most k v hk h kl kh w
    · exact mostHiPos most k v _ hk rfl h (by omega) kl kh w

end Go.Proofs.Ythjcfeljbmehmaa
