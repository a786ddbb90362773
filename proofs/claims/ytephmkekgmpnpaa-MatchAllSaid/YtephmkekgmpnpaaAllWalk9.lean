/-
  MatchAll: the walk. Conditions: two uint8.
-/
import Derived.Test.YtephmkekgmpnpaaAllPl9
namespace Go.Proofs.Ytephmkekgmpnpaa
open Go.RowKit

/-- The first i of operations, in a row of one's own. -/
def OGr (w : World) (os : List (Int × Int)) (i : Nat) (v : Value) (wr : World) : Prop := wr.ownsRow w.heap.size 43 2 v i (flatO (os.take i)) ∧ Below w.heap.size w wr
theorem OGr.start (w : World) (os : List (Int × Int)) : OGr w os 0 (.slice none 0 0) w := ⟨by simpa [flatO] using World.ownsRow_nil w w.heap.size 43 2, Below.refl _ _⟩
theorem OGr.next {w wr w1 : World} {os : List (Int × Int)} {i : Nat} {v v' : Value} {o : Obj} {a b : Int} (h : OGr w os i v wr) (hi : i < os.length) (he : os.getD i (0, 0) = (a, b))
    (hown : w1.ownsRow w.heap.size 43 2 v' (i + 1) (flatO (os.take i) ++ [.int .u8 a, .int .i32 b])) (hg : (wr.alloc o).grownBy w1 v.ownBlock) : OGr w os (i + 1) v' w1 := by
  refine ⟨?_, (h.2.alloc h.2.size o).grown hg (Nat.le_trans h.2.size (by simp)) (fun k e => (h.1.lt k e).1)⟩
  rw [show os.take (i + 1) = os.take i ++ [os.getD i (0, 0)] by rw [List.take_succ_eq_append_getElem hi]; simp [List.getD, hi], he, flatO_snoc]
  exact hown

set_option maxRecDepth 100000 in
set_option maxHeartbeats 8000000 in
theorem allWalk (a b : Int) (a0 : 0 ≤ a) (a1 : a ≤ 255) (b0 : 0 ≤ b) (b1 : b ≤ 255) (w : World) :
    Calls Try.prog 8 #[.int .u8 a, .int .u8 b] w fun e w' => e = .returned (.bool true) ∧ Below w.heap.size w w' := by
  obtain ⟨i0, hi, hz0, hz1, hz2⟩ := info_parts infoOp
  obtain ⟨K, hK⟩ : ∃ K : Nat, b % 20 = K := ⟨(b % 20).toNat, by omega⟩
  obtain ⟨h, hh⟩ : ∃ h, a % 9 = h := ⟨_, rfl⟩
  have hK2 : K < 20 := by omega
  have hh0 : 0 ≤ h := by omega
  have hh1 : h < 9 := by omega
  have HK := Lib.hid hK
  have HH := Lib.hid hh
  have HS := Lib.hid (OGr.start w (allOps K))
  clear hK hh
  go_enter Try.func8, Try.ntmps8
  go_upto_region 3 with (fail)
  rw [HK.out, HH.out]
  clear a0 a1 b0 b1 HK HH
  go_wp2
  go_loopw [7, 8] (fun v i wr => ∃ j : Nat, j ≤ K ∧ i = .int .i64 j ∧ Hid (OGr w (allOps K) j v wr)) (fun _ i _ => K - (intOf i).toNat)
  case atStart => exact ⟨0, Nat.zero_le _, rfl, HS⟩
  case round =>
    obtain ⟨j, hj, rfl, HR⟩ := hrel
    clear HS
    by_cases hlt : j < K
    · have i1 : (j : Int) < (K : Int) := by omega
      have HE := Lib.hid (allOps_push hlt)
      go_wp2_with (at_builtin; refine wpList_append_own _ rfl (.tmp 24) (.tmp 28) 22 rfl w.heap.size 43 i0 _ 2 8 Try.underlying22 hi hz0 hz1 hz2 rfl (by decide) _ (j) _ rfl (HR.out.1.alloc _) ⟨wr.heap.size, 0, none⟩ 1 1 [.int .u8 1, .int .i32 j] rfl rfl (op_cells wr _ _ _) (op_one _ _) (by simp only [maxLen]; omega) (by omega) (Nat.le_trans HR.out.2.size (by simp)) ?_; intro v' w1 q g _; have HG := Lib.hid (HR.out.next (os := allOps K) (by rw [allOps_length]; omega) HE.out q g); clear q g)
      go_roundw
      case rel => exact ⟨j + 1, by omega, by go_num, HG⟩
      case measure => simp [intOf]; omega
    · obtain rfl : K = j := by omega
      have HS := HR
      clear HR hlt
      go_wp2
      go_loopw [7, 9] (fun v i wr => ∃ m : Nat, m ≤ K ∧ i = .int .i64 m ∧ Hid (OGr w (allOps K) (K + m) v wr)) (fun _ i _ => K - (intOf i).toNat)
      case atStart => exact ⟨0, Nat.zero_le _, rfl, HS⟩
      case round =>
        obtain ⟨m, hm, rfl, HR⟩ := hrel
        clear HS
        by_cases hlt : m < K
        · have i1 : (m : Int) < (K : Int) := by omega
          have HE := Lib.hid (allOps_pop hlt)
          go_wp2_with (at_builtin; refine wpList_append_own _ rfl (.tmp 35) (.tmp 37) 22 rfl w.heap.size 43 i0 _ 2 8 Try.underlying22 hi hz0 hz1 hz2 rfl (by decide) _ (K + m) _ rfl (HR.out.1.alloc _) ⟨wr.heap.size, 0, none⟩ 1 1 [.int .u8 2, .int .i32 0] rfl rfl (op_cells wr _ _ _) (op_one _ _) (by simp only [maxLen]; omega) (by omega) (Nat.le_trans HR.out.2.size (by simp)) ?_; intro v' w1 q g _; have HG := Lib.hid (HR.out.next (os := allOps K) (by rw [allOps_length]; omega) HE.out q g); clear q g)
          go_roundw
          case rel => exact ⟨m + 1, by omega, by go_num, HG⟩
          case measure => simp [intOf]; omega
        · obtain rfl : K = m := by omega
          obtain ⟨N, hN⟩ : ∃ N, K + K = N := ⟨_, rfl⟩
          have hr := HR.out
          rw [hN] at hr
          have hown := hr.1
          rw [List.take_of_length_le (by rw [allOps_length]; omega)] at hown
          obtain ⟨ao, cap, rfl, ho, _⟩ := opsAt_own hown
          have HB := Lib.hid hr.2
          have HO := Lib.hid ho
          have C := pairsAny wr h (h + K) ao N cap (allOps K) ho (by omega)
          rw [mostOf_self (h + K) (by omega) (by omega), show haveOf h (h + K) = h by unfold haveOf; rw [if_neg (by omega), if_neg (by omega)]] at C
          have HN := Lib.hid hN
          have qn : ((N : Int) != 2 * (K : Int)) = false := by simp; omega
          have hNK : (N : Int) = (K : Int) + K := by omega
          clear HR hlt hr hown ho hN
          have HNK := Lib.hid hNK
          clear hNK
          go_wp2_with fail
          refine C.mono ?_
          clear C
          rintro e w2 ⟨gw, gc, rfl, r1, _, _, _, _, b2⟩
          have HB2 := Lib.hid (HB.out.trans (b2.mono HB.out.size))
          have HO2 := Lib.hid (HO.out.keep b2)
          rw [← HN.out] at r1
          have HP := Lib.hid r1
          clear r1 b2 HB HO
          go_wp2
          go_loop [12] (fun i => ∃ m : Nat, m ≤ K ∧ i = .int .i64 m) (fun i => K - (intOf i).toNat)
          case atStart => exact ⟨0, Nat.zero_le _, rfl⟩
          case round =>
            obtain ⟨m, hm2, rfl⟩ := hrel
            by_cases hlt : m < K
            · have c1 := HP.out.cell (i := m) (by rw [pairsL_length]; omega)
              have c2 := HP.out.cell (i := K + m) (by rw [pairsL_length]; omega)
              rw [all_pair_push hlt] at c1
              rw [all_pair_pop hlt] at c2
              have i1 : (m : Int) < (K : Int) := by omega
              have i2 : (m : Int) < (N : Int) := by have := HNK.out; omega
              have i3 : (K : Int) + (m : Int) < (N : Int) := by have := HNK.out; omega
              have i4 : ((K : Int) + (m : Int)).toNat = K + m := by omega
              clear qn
              go_wp2
              go_round
              case rel => exact ⟨m + 1, by omega, by go_num⟩
              case measure => simp [intOf]; omega
            · obtain rfl : K = m := by omega
              clear hlt qn
              go_wp2_with fail
              refine (known _).mono ?_
              rintro e w3 ⟨rfl, b3⟩
              have HB3 := Lib.hid (HB2.out.trans (b3.mono HB2.out.size))
              have ho3 := HO2.out.keep b3
              have C := sparedAny w3 h (h + K) ao N cap (allOps K) ho3 (by have := HNK.out; omega)
              rw [mostOf_self (h + K) (by omega) (by omega), show haveOf h (h + K) = h by unfold haveOf; rw [if_neg (by omega), if_neg (by omega)], ← HN.out, all_met] at C
              have HO3 := Lib.hid ho3
              clear b3 ho3 HB2 HO2 HP
              rw [HN.out] at C
              go_wp2_with fail
              refine C.mono ?_
              clear C
              rintro e w4 ⟨rfl, b4⟩
              have HB4 := Lib.hid (HB3.out.trans (b4.mono HB3.out.size))
              have C := sparedAny w4 h h ao N cap (allOps K) (HO3.out.keep b4) (by have := HNK.out; omega)
              rw [mostOf_self h (by omega) (by omega), show haveOf h h = h by unfold haveOf; rw [if_neg (by omega), if_neg (by omega)], ← HN.out, all_none] at C
              rw [HN.out] at C
              clear b4 HB3 HO3
              go_wp2_with fail
              refine C.mono ?_
              clear C
              rintro e w5 ⟨rfl, b5⟩
              have HB5 := Lib.hid (HB4.out.trans (b5.mono HB4.out.size))
              clear b5 HB4
              go_wp2
              go_ret
              exact ⟨rfl, HB5.out⟩

end Go.Proofs.Ytephmkekgmpnpaa
