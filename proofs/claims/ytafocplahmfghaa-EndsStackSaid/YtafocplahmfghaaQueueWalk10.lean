/-
  EndsQueue: what is put at one end meets at the other one in order; the walk. Conditions: a uint8 and a bool.
-/
import Derived.Test.YtafocplahmfghaaKnow10
namespace Go.Proofs.Ytafocplahmfghaa
open Go.RowKit

/-- The first i of operations, in a row of one's own. -/
def OGr (w : World) (os : List (Int × Int)) (i : Nat) (v : Value) (wr : World) : Prop := wr.ownsRow w.heap.size 42 2 v i (flatO (os.take i)) ∧ Below w.heap.size w wr
theorem OGr.start (w : World) (os : List (Int × Int)) : OGr w os 0 (.slice none 0 0) w := ⟨by simpa [flatO] using World.ownsRow_nil w w.heap.size 42 2, Below.refl _ _⟩
theorem OGr.next {w wr w1 : World} {os : List (Int × Int)} {i : Nat} {v v' : Value} {o : Obj} {a b : Int} (h : OGr w os i v wr) (hi : i < os.length) (he : os.getD i (0, 0) = (a, b))
    (hown : w1.ownsRow w.heap.size 42 2 v' (i + 1) (flatO (os.take i) ++ [.int .u8 a, .int .i32 b])) (hg : (wr.alloc o).grownBy w1 v.ownBlock) : OGr w os (i + 1) v' w1 := by
  refine ⟨?_, (h.2.alloc h.2.size o).grown hg (Nat.le_trans h.2.size (by simp)) (fun k e => (h.1.lt k e).1)⟩
  rw [show os.take (i + 1) = os.take i ++ [os.getD i (0, 0)] by rw [List.take_succ_eq_append_getElem hi]; simp [List.getD, hi], he, flatO_snoc]
  exact hown

/-- Some at one end, one more at the other. -/
def qOps (K : Nat) (a b : Int) : List (Int × Int) := List.replicate K (a, 0) ++ List.replicate (K + 1) (b, 0)
theorem qOps_length (K : Nat) (a b : Int) : (qOps K a b).length = 2 * K + 1 := by simp [qOps]; omega
theorem qOps_put {K j : Nat} {a b : Int} (h : j < K) : (qOps K a b).getD j (0, 0) = (a, 0) := by
  unfold qOps
  simp [List.getD, List.getElem?_append_left, h]
theorem qOps_take {K j : Nat} {a b : Int} (h : j ≤ K) : (qOps K a b).getD (K + j) (0, 0) = (b, 0) := by
  unfold qOps
  simp [List.getD, List.getElem?_append_right, show j < K + 1 by omega]

/-- The first places. -/
def firsts (j : Nat) : List Int := (List.range j).map (fun i : Nat => (i : Int))
theorem firsts_length (j : Nat) : (firsts j).length = j := by simp [firsts]
/-- Whom they meet, and codes. -/
def qPs (K : Nat) : List Int := List.replicate K (-1) ++ (firsts K ++ [-1])
def qCs (K : Nat) : List Int := List.replicate K 1 ++ (List.replicate K 2 ++ [4])
theorem qPs_length (K : Nat) : (qPs K).length = 2 * K + 1 := by simp [qPs, firsts_length]; omega
theorem qCs_length (K : Nat) : (qCs K).length = 2 * K + 1 := by simp [qCs]; omega
theorem qPs_put {K j : Nat} (h : j < K) : (qPs K).getD j 0 = -1 := by
  unfold qPs
  simp [List.getD, List.getElem?_append_left, h]
theorem qPs_take {K j : Nat} (h : j < K) : (qPs K).getD (K + j) 0 = j := by
  unfold qPs firsts
  simp [List.getD, List.getElem?_append_right, List.getElem?_append_left, h]
theorem qPs_last (K : Nat) : (qPs K).getD (2 * K) 0 = -1 := by
  unfold qPs firsts
  rw [show 2 * K = K + K by omega]
  simp [List.getD, List.getElem?_append_right]
theorem qCs_take {K j : Nat} (h : j < K) : (qCs K).getD (K + j) 0 = 2 := by
  unfold qCs
  simp [List.getD, List.getElem?_append_right, List.getElem?_append_left, h]
theorem qCs_last (K : Nat) : (qCs K).getD (2 * K) 0 = 4 := by
  unfold qCs
  rw [show 2 * K = K + K by omega]
  simp [List.getD, List.getElem?_append_right]

set_option maxRecDepth 1000000 in
theorem qL_all : ∀ K : Nat, K < 20 → dpL (mostOf (K : Int)) (olds (haveOf 0 (mostOf (K : Int)))) (kindsOf (qOps K 1 4)) (2 * K + 1) = qPs K ∧ dcL (mostOf (K : Int)) (olds (haveOf 0 (mostOf (K : Int)))) (kindsOf (qOps K 1 4)) (2 * K + 1) = qCs K ∧ metN (qPs K) = K := by decide +kernel
set_option maxRecDepth 1000000 in
theorem qR_all : ∀ K : Nat, K < 20 → dpL (mostOf (K : Int)) (olds (haveOf 0 (mostOf (K : Int)))) (kindsOf (qOps K 2 3)) (2 * K + 1) = qPs K ∧ dcL (mostOf (K : Int)) (olds (haveOf 0 (mostOf (K : Int)))) (kindsOf (qOps K 2 3)) (2 * K + 1) = qCs K ∧ metN (qPs K) = K := by decide +kernel

theorem twoBoxes (w : World) (a b : Int) : ∀ W, (w.alloc (.cells #[.int .u8 a, .int .i32 0] 42)).alloc (.cells #[.int .u8 b, .int .i32 0] 42) = W →
    OBox W w.heap.size a 0 ∧ OBox W (w.heap.size + 1) b 0 ∧ Below w.heap.size w W := by
  rintro W rfl
  refine ⟨(OBox.new w a 0).alloc _, ?_, ((Below.refl _ _).alloc (Nat.le_refl _) _).alloc (by simp) _⟩
  have := OBox.new (w.alloc (.cells #[.int .u8 a, .int .i32 0] 42)) b 0
  simpa using this

set_option maxRecDepth 100000 in
set_option maxHeartbeats 8000000 in
theorem queueL (a : Int) (a0 : 0 ≤ a) (a1 : a ≤ 255) (w : World) :
    Calls Try.prog 8 #[.int .u8 a, .bool false] w fun e w' => e = .returned (.bool true) ∧ Below w.heap.size w w' := by
  obtain ⟨i0, hi, hz0, hz1, hz2⟩ := info_parts infoOp
  obtain ⟨K, hK⟩ : ∃ K : Nat, a % 20 = K := ⟨(a % 20).toNat, by omega⟩
  have hK2 : K < 20 := by omega
  have HK := Lib.hid hK
  have HA := Lib.hid (qL_all K hK2)
  clear hK
  go_enter Try.func8, Try.ntmps8
  go_upto_region 2 with (fail)
  rw [HK.out]
  clear a0 a1 HK
  go_upto_region 7 with (fail)
  generalize hW : (w.alloc (.cells #[.int .u8 1, .int .i32 0] 42)).alloc (.cells #[.int .u8 4, .int .i32 0] 42) = W
  obtain ⟨o1, o2, b0⟩ := twoBoxes w _ _ W hW
  have HO1 := Lib.hid o1
  have HO2 := Lib.hid o2
  have HB0 := Lib.hid b0
  have HS := Lib.hid (OGr.start W (qOps K 1 4))
  clear hW o1 o2 b0
  go_wp2
  go_loopw [8, 9] (fun v i wr => ∃ j : Nat, j ≤ K ∧ i = .int .i64 j ∧ Hid (OGr W (qOps K 1 4) j v wr)) (fun _ i _ => K - (intOf i).toNat)
  case atStart => exact ⟨0, Nat.zero_le _, rfl, HS⟩
  case round =>
    obtain ⟨j, hj, rfl, HR⟩ := hrel
    clear HS
    by_cases hlt : j < K
    · have i1 : (j : Int) < (K : Int) := by omega
      have HE := Lib.hid (qOps_put (a := 1) (b := 4) hlt)
      have x0 := (HO1.out.keep HR.out.2).c0
      have x1 := (HO1.out.keep HR.out.2).c1
      go_wp2_with (at_builtin; refine wpList_append_own _ rfl (.tmp 27) (.tmp 29) 22 rfl W.heap.size 42 i0 _ 2 8 Try.underlying22 hi hz0 hz1 hz2 rfl (by decide) _ (j) _ rfl (HR.out.1.alloc _) ⟨wr.heap.size, 0, none⟩ 1 1 [.int .u8 1, .int .i32 0] rfl rfl (op_cells wr _ _ _) (op_one _ _) (by simp only [maxLen]; omega) (by omega) (Nat.le_trans HR.out.2.size (by simp)) ?_; intro v' w1 q g _; have HG := Lib.hid (HR.out.next (os := qOps K 1 4) (by rw [qOps_length]; omega) HE.out q g); clear q g)
      go_roundw
      case rel => exact ⟨j + 1, by omega, by go_num, HG⟩
      case measure => simp [intOf]; omega
    · obtain rfl : K = j := by omega
      have HS := HR
      clear HR hlt
      go_wp2
      go_loopw [8, 10] (fun v i wr => ∃ m : Nat, m ≤ K + 1 ∧ i = .int .i64 m ∧ Hid (OGr W (qOps K 1 4) (K + m) v wr)) (fun _ i _ => K + 1 - (intOf i).toNat)
      case atStart => exact ⟨0, Nat.zero_le _, rfl, HS⟩
      case round =>
        obtain ⟨m, hm, rfl, HR⟩ := hrel
        clear HS
        by_cases hlt : m ≤ K
        · have i1 : (m : Int) ≤ (K : Int) := by omega
          have HE := Lib.hid (qOps_take (a := 1) (b := 4) hlt)
          have x0 := (HO2.out.keep HR.out.2).c0
          have x1 := (HO2.out.keep HR.out.2).c1
          go_wp2_with (at_builtin; refine wpList_append_own _ rfl (.tmp 36) (.tmp 38) 22 rfl W.heap.size 42 i0 _ 2 8 Try.underlying22 hi hz0 hz1 hz2 rfl (by decide) _ (K + m) _ rfl (HR.out.1.alloc _) ⟨wr.heap.size, 0, none⟩ 1 1 [.int .u8 4, .int .i32 0] rfl rfl (op_cells wr _ _ _) (op_one _ _) (by simp only [maxLen]; omega) (by omega) (Nat.le_trans HR.out.2.size (by simp)) ?_; intro v' w1 q g _; have HG := Lib.hid (HR.out.next (os := qOps K 1 4) (by rw [qOps_length]; omega) HE.out q g); clear q g)
          go_roundw
          case rel => exact ⟨m + 1, by omega, by go_num, HG⟩
          case measure => simp [intOf]; omega
        · obtain rfl : m = K + 1 := by omega
          have i1 : ¬ ((K : Int) + 1 ≤ (K : Int)) := by omega
          obtain ⟨N, hN⟩ : ∃ N, K + (K + 1) = N := ⟨_, rfl⟩
          have hr := HR.out
          rw [hN] at hr
          have hown := hr.1
          rw [List.take_of_length_le (by rw [qOps_length]; omega)] at hown
          obtain ⟨ao, cap, rfl, ho, _⟩ := opsAt_own hown
          have HB := Lib.hid (HB0.out.trans (hr.2.mono HB0.out.size))
          have HO := Lib.hid ho
          have hN2 : 2 * K + 1 = N := by omega
          have hA := HA.out
          rw [hN2] at hA
          obtain ⟨hA1, hA2, hA3⟩ := hA
          have C := pairsAny wr 0 K ao N cap (qOps K 1 4) ho (by omega)
          unfold DqPost at C
          rw [hA1, hA2] at C
          have qn : ((N : Int) != 2 * (K : Int) + 1) = false := by simp; omega
          have HN := Lib.hid hN2
          have HL := Lib.hid (And.intro hA1 hA3)
          clear HR hlt hr hown ho hN hN2 hA1 hA2 hA3 HA HO1 HO2 HB0 hm
          go_wp2_with fail
          refine C.mono ?_
          clear C
          rintro e w2 ⟨gw, gc, rfl, r1, r2, _, _, _, b2⟩
          have HB2 := Lib.hid (HB.out.trans (b2.mono HB.out.size))
          have HO2 := Lib.hid (HO.out.keep b2)
          have HP := Lib.hid r1
          have HC := Lib.hid r2
          clear r1 r2 b2 HB HO i1
          go_wp2
          go_loop [13] (fun i => ∃ m : Nat, m ≤ K ∧ i = .int .i64 m) (fun i => K - (intOf i).toNat)
          case atStart => exact ⟨0, Nat.zero_le _, rfl⟩
          case round =>
            obtain ⟨m, hm2, rfl⟩ := hrel
            by_cases hlt : m < K
            · have c1 := HP.out.cell (i := m) (by rw [qPs_length]; omega)
              have c2 := HP.out.cell (i := K + m) (by rw [qPs_length]; omega)
              have c3 := HC.out.cell (i := K + m) (by rw [qCs_length]; omega)
              rw [qPs_put hlt] at c1
              rw [qPs_take hlt] at c2
              rw [qCs_take hlt] at c3
              have i1 : (m : Int) < (K : Int) := by omega
              have i2 : (m : Int) < (N : Int) := by have := HN.out; omega
              have i3 : (K : Int) + (m : Int) < (N : Int) := by have := HN.out; omega
              have i4 : ((K : Int) + (m : Int)).toNat = K + m := by omega
              clear qn
              go_wp2
              go_round
              case rel => exact ⟨m + 1, by omega, by go_num⟩
              case measure => simp [intOf]; omega
            · obtain rfl : K = m := by omega
              clear hlt qn hm2
              go_wp2_with fail
              refine (known _).mono ?_
              rintro e w3 ⟨rfl, b3⟩
              have c1 := (HP.out.below b3).cell (i := 2 * K) (by rw [qPs_length]; omega)
              have c2 := (HC.out.below b3).cell (i := 2 * K) (by rw [qCs_length]; omega)
              rw [qPs_last] at c1
              rw [qCs_last] at c2
              have HB3 := Lib.hid (HB2.out.trans (b3.mono HB2.out.size))
              have ho3 := HO2.out.keep b3
              have C := sparedAny w3 0 K ao N cap (qOps K 1 4) ho3 (by have := HN.out; omega)
              rw [HL.out.1, HL.out.2] at C
              have i5 : 2 * (K : Int) < (N : Int) := by have := HN.out; omega
              have i6 : (2 * (K : Int)).toNat = 2 * K := by omega
              clear b3 ho3 HB2 HO2 HP HC HL HN
              go_wp2_with fail
              refine C.mono ?_
              clear C
              rintro e w4 ⟨rfl, b4⟩
              have HB4 := Lib.hid (HB3.out.trans (b4.mono HB3.out.size))
              clear b4 HB3
              go_wp2
              go_ret
              exact ⟨rfl, HB4.out⟩

set_option maxRecDepth 100000 in
set_option maxHeartbeats 8000000 in
theorem queueR (a : Int) (a0 : 0 ≤ a) (a1 : a ≤ 255) (w : World) :
    Calls Try.prog 8 #[.int .u8 a, .bool true] w fun e w' => e = .returned (.bool true) ∧ Below w.heap.size w w' := by
  obtain ⟨i0, hi, hz0, hz1, hz2⟩ := info_parts infoOp
  obtain ⟨K, hK⟩ : ∃ K : Nat, a % 20 = K := ⟨(a % 20).toNat, by omega⟩
  have hK2 : K < 20 := by omega
  have HK := Lib.hid hK
  have HA := Lib.hid (qR_all K hK2)
  clear hK
  go_enter Try.func8, Try.ntmps8
  go_upto_region 2 with (fail)
  rw [HK.out]
  clear a0 a1 HK
  go_upto_region 7 with (fail)
  generalize hW : (w.alloc (.cells #[.int .u8 2, .int .i32 0] 42)).alloc (.cells #[.int .u8 3, .int .i32 0] 42) = W
  obtain ⟨o1, o2, b0⟩ := twoBoxes w _ _ W hW
  have HO1 := Lib.hid o1
  have HO2 := Lib.hid o2
  have HB0 := Lib.hid b0
  have HS := Lib.hid (OGr.start W (qOps K 2 3))
  clear hW o1 o2 b0
  go_wp2
  go_loopw [8, 9] (fun v i wr => ∃ j : Nat, j ≤ K ∧ i = .int .i64 j ∧ Hid (OGr W (qOps K 2 3) j v wr)) (fun _ i _ => K - (intOf i).toNat)
  case atStart => exact ⟨0, Nat.zero_le _, rfl, HS⟩
  case round =>
    obtain ⟨j, hj, rfl, HR⟩ := hrel
    clear HS
    by_cases hlt : j < K
    · have i1 : (j : Int) < (K : Int) := by omega
      have HE := Lib.hid (qOps_put (a := 2) (b := 3) hlt)
      have x0 := (HO1.out.keep HR.out.2).c0
      have x1 := (HO1.out.keep HR.out.2).c1
      go_wp2_with (at_builtin; refine wpList_append_own _ rfl (.tmp 27) (.tmp 29) 22 rfl W.heap.size 42 i0 _ 2 8 Try.underlying22 hi hz0 hz1 hz2 rfl (by decide) _ (j) _ rfl (HR.out.1.alloc _) ⟨wr.heap.size, 0, none⟩ 1 1 [.int .u8 2, .int .i32 0] rfl rfl (op_cells wr _ _ _) (op_one _ _) (by simp only [maxLen]; omega) (by omega) (Nat.le_trans HR.out.2.size (by simp)) ?_; intro v' w1 q g _; have HG := Lib.hid (HR.out.next (os := qOps K 2 3) (by rw [qOps_length]; omega) HE.out q g); clear q g)
      go_roundw
      case rel => exact ⟨j + 1, by omega, by go_num, HG⟩
      case measure => simp [intOf]; omega
    · obtain rfl : K = j := by omega
      have HS := HR
      clear HR hlt
      go_wp2
      go_loopw [8, 10] (fun v i wr => ∃ m : Nat, m ≤ K + 1 ∧ i = .int .i64 m ∧ Hid (OGr W (qOps K 2 3) (K + m) v wr)) (fun _ i _ => K + 1 - (intOf i).toNat)
      case atStart => exact ⟨0, Nat.zero_le _, rfl, HS⟩
      case round =>
        obtain ⟨m, hm, rfl, HR⟩ := hrel
        clear HS
        by_cases hlt : m ≤ K
        · have i1 : (m : Int) ≤ (K : Int) := by omega
          have HE := Lib.hid (qOps_take (a := 2) (b := 3) hlt)
          have x0 := (HO2.out.keep HR.out.2).c0
          have x1 := (HO2.out.keep HR.out.2).c1
          go_wp2_with (at_builtin; refine wpList_append_own _ rfl (.tmp 36) (.tmp 38) 22 rfl W.heap.size 42 i0 _ 2 8 Try.underlying22 hi hz0 hz1 hz2 rfl (by decide) _ (K + m) _ rfl (HR.out.1.alloc _) ⟨wr.heap.size, 0, none⟩ 1 1 [.int .u8 3, .int .i32 0] rfl rfl (op_cells wr _ _ _) (op_one _ _) (by simp only [maxLen]; omega) (by omega) (Nat.le_trans HR.out.2.size (by simp)) ?_; intro v' w1 q g _; have HG := Lib.hid (HR.out.next (os := qOps K 2 3) (by rw [qOps_length]; omega) HE.out q g); clear q g)
          go_roundw
          case rel => exact ⟨m + 1, by omega, by go_num, HG⟩
          case measure => simp [intOf]; omega
        · obtain rfl : m = K + 1 := by omega
          have i1 : ¬ ((K : Int) + 1 ≤ (K : Int)) := by omega
          obtain ⟨N, hN⟩ : ∃ N, K + (K + 1) = N := ⟨_, rfl⟩
          have hr := HR.out
          rw [hN] at hr
          have hown := hr.1
          rw [List.take_of_length_le (by rw [qOps_length]; omega)] at hown
          obtain ⟨ao, cap, rfl, ho, _⟩ := opsAt_own hown
          have HB := Lib.hid (HB0.out.trans (hr.2.mono HB0.out.size))
          have HO := Lib.hid ho
          have hN2 : 2 * K + 1 = N := by omega
          have hA := HA.out
          rw [hN2] at hA
          obtain ⟨hA1, hA2, hA3⟩ := hA
          have C := pairsAny wr 0 K ao N cap (qOps K 2 3) ho (by omega)
          unfold DqPost at C
          rw [hA1, hA2] at C
          have qn : ((N : Int) != 2 * (K : Int) + 1) = false := by simp; omega
          have HN := Lib.hid hN2
          have HL := Lib.hid (And.intro hA1 hA3)
          clear HR hlt hr hown ho hN hN2 hA1 hA2 hA3 HA HO1 HO2 HB0 hm
          go_wp2_with fail
          refine C.mono ?_
          clear C
          rintro e w2 ⟨gw, gc, rfl, r1, r2, _, _, _, b2⟩
          have HB2 := Lib.hid (HB.out.trans (b2.mono HB.out.size))
          have HO2 := Lib.hid (HO.out.keep b2)
          have HP := Lib.hid r1
          have HC := Lib.hid r2
          clear r1 r2 b2 HB HO i1
          go_wp2
          go_loop [13] (fun i => ∃ m : Nat, m ≤ K ∧ i = .int .i64 m) (fun i => K - (intOf i).toNat)
          case atStart => exact ⟨0, Nat.zero_le _, rfl⟩
          case round =>
            obtain ⟨m, hm2, rfl⟩ := hrel
            by_cases hlt : m < K
            · have c1 := HP.out.cell (i := m) (by rw [qPs_length]; omega)
              have c2 := HP.out.cell (i := K + m) (by rw [qPs_length]; omega)
              have c3 := HC.out.cell (i := K + m) (by rw [qCs_length]; omega)
              rw [qPs_put hlt] at c1
              rw [qPs_take hlt] at c2
              rw [qCs_take hlt] at c3
              have i1 : (m : Int) < (K : Int) := by omega
              have i2 : (m : Int) < (N : Int) := by have := HN.out; omega
              have i3 : (K : Int) + (m : Int) < (N : Int) := by have := HN.out; omega
              have i4 : ((K : Int) + (m : Int)).toNat = K + m := by omega
              clear qn
              go_wp2
              go_round
              case rel => exact ⟨m + 1, by omega, by go_num⟩
              case measure => simp [intOf]; omega
            · obtain rfl : K = m := by omega
              clear hlt qn hm2
              go_wp2_with fail
              refine (known _).mono ?_
              rintro e w3 ⟨rfl, b3⟩
              have c1 := (HP.out.below b3).cell (i := 2 * K) (by rw [qPs_length]; omega)
              have c2 := (HC.out.below b3).cell (i := 2 * K) (by rw [qCs_length]; omega)
              rw [qPs_last] at c1
              rw [qCs_last] at c2
              have HB3 := Lib.hid (HB2.out.trans (b3.mono HB2.out.size))
              have ho3 := HO2.out.keep b3
              have C := sparedAny w3 0 K ao N cap (qOps K 2 3) ho3 (by have := HN.out; omega)
              rw [HL.out.1, HL.out.2] at C
              have i5 : 2 * (K : Int) < (N : Int) := by have := HN.out; omega
              have i6 : (2 * (K : Int)).toNat = 2 * K := by omega
              clear b3 ho3 HB2 HO2 HP HC HL HN
              go_wp2_with fail
              refine C.mono ?_
              clear C
              rintro e w4 ⟨rfl, b4⟩
              have HB4 := Lib.hid (HB3.out.trans (b4.mono HB3.out.size))
              clear b4 HB3
              go_wp2
              go_ret
              exact ⟨rfl, HB4.out⟩

theorem queueWalk (a : Int) (r : Bool) (a0 : 0 ≤ a) (a1 : a ≤ 255) (w : World) :
    Calls Try.prog 8 #[.int .u8 a, .bool r] w fun e w' => e = .returned (.bool true) ∧ Below w.heap.size w w' := by
  cases r
  · exact queueL a a0 a1 w
  · exact queueR a a0 a1 w

end Go.Proofs.Ytafocplahmfghaa
