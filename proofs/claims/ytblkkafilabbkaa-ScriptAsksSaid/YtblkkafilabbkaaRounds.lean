/-
  What script.Rounds and reaperref03.Rounds tell: a pick of each thread, round by round; nothing below 1, and nothing above 20000 entries. Conditions: none.
-/
import Derived.Test.YtblkkafilabbkaaDecode
namespace Go.Proofs.Ytblkkafilabbkaa
open Go.RowKit

/-- The first q picks of n threads in turn. -/
def pickL (n q : Nat) : List Ent := (List.range q).map fun k => ⟨2, ((k % n : Nat) : Int), 0, 0, 0⟩
theorem pickL_succ (n q : Nat) : pickL n (q + 1) = pickL n q ++ [⟨2, ((q % n : Nat) : Int), 0, 0, 0⟩] := by simp [pickL, List.range_succ]
theorem pickL_length (n q : Nat) : (pickL n q).length = q := by simp [pickL]

theorem entsNil (w : World) : EntsNew w [] (.returned (.slice none 0 0)) w := ⟨_, _, _, rfl, ⟨rfl, fun h => absurd h (by omega)⟩, Below.refl _ _⟩

/-- Picks in a row of one's own. -/
def Picked (w : World) (n q : Nat) (v : Value) (wr : World) : Prop := wr.ownsRow w.heap.size 46 5 v q (flat (pickL n q)) ∧ Below w.heap.size w wr

theorem Picked.next {w wr w1 : World} {n i t : Nat} {v v' : Value} {o : Obj} (h : Picked w n (i * n + t) v wr) (ht : t < n) (hown : w1.ownsRow w.heap.size 46 5 v' (i * n + t + 1) (flat (pickL n (i * n + t)) ++ (⟨2, (t : Int), 0, 0, 0⟩ : Ent).cells))
    (hg : (wr.alloc o).grownBy w1 v.ownBlock) : Picked w n (i * n + (t + 1)) v' w1 := by
  refine ⟨?_, ?_⟩
  · rw [show i * n + (t + 1) = i * n + t + 1 by omega, pickL_succ, flat_snoc]
    rw [show (i * n + t) % n = t by rw [Nat.add_comm, Nat.add_mul_mod_self_right, Nat.mod_eq_of_lt ht]]
    exact hown
  · refine (h.2.alloc h.2.size o).grown hg (Nat.le_trans h.2.size (by simp)) (fun k e => ?_)
    exact (h.1.lt k e).1

set_option maxHeartbeats 2000000 in
theorem roundsSome (w : World) (n m : Nat) (hn : 1 ≤ n) (hm : 1 ≤ m) (hq : n * m ≤ 20000) :
    Calls Try.prog 20 #[.int .i64 n, .int .i64 m] w (EntsNew w (pickL n (n * m))) := by
  obtain ⟨i0, hi, hz0, hz1, hz2⟩ := info_parts infoE
  have n1 : n ≤ 20000 := Nat.le_trans (Nat.le_mul_of_pos_right n hm) hq
  have m1 : m ≤ 20000 := Nat.le_trans (Nat.le_mul_of_pos_left m hn) hq
  have hdiv : ¬ ((20000 : Int) / (m : Int) < (n : Int)) := by
    have : n ≤ 20000 / m := (Nat.le_div_iff_mul_le hm).2 hq
    have h2 : ((20000 : Int) / (m : Int)) = ((20000 / m : Nat) : Int) := by simp
    rw [h2]; omega
  have HP := Lib.hid (show ((n : Int) * (m : Int)) = ((n * m : Nat) : Int) by simp)
  have hpr : (n : Int) * (m : Int) ≤ 20000 := by rw [HP.out]; omega
  have hp0 : 0 ≤ (n : Int) * (m : Int) := by rw [HP.out]; omega
  have e1 : decide ((n : Int) < 1) = false := by simp; omega
  have e2 : decide ((m : Int) < 1) = false := by simp; omega
  go_enter Try.func20, Try.ntmps20
  go_wp2_with (at_make; refine wpList_make_own _ rfl _ _ 23 rfl w.heap.size 46 i0 _ 5 Try.underlying23 hi hz0 hz1 .i64 .i64 _ (n * m) rfl rfl HP.out (by rw [hz2]; omega) (by simp only [maxLen]; omega) (Nat.le_refl _) ?_; intro w1 hown1 hgrow1; have HO1 := Lib.hid hown1; have HG1 := Lib.hid hgrow1; clear hown1 hgrow1)
  have HS := Lib.hid (show Picked w n (0 * n) (.slice (some ⟨w.heap.size, 0, none⟩) 0 (n * m)) w1 from ⟨by simpa [pickL, flat] using HO1.out, (Below.refl _ w).grown HG1.out (Nat.le_refl _) (fun k e => by cases e)⟩)
  clear HO1 HG1
  go_loopw [5, 24] (fun v i wr => ∃ k : Nat, k ≤ m ∧ i = .int .i64 k ∧ Picked w n (k * n) v wr) (fun _ i _ => m - (intOf i).toNat)
  case atStart => exact ⟨0, Nat.zero_le _, rfl, HS.out⟩
  case round =>
    obtain ⟨k, hk, rfl, hpk⟩ := hrel
    have HK := Lib.hid hpk
    clear hpk HS
    by_cases hlt : k < m
    · go_wp2
      go_loopw [5, 27] (fun v i wr => ∃ t : Nat, t ≤ n ∧ i = .int .i64 t ∧ Picked w n (k * n + t) v wr) (fun _ i _ => n - (intOf i).toNat)
      case atStart => exact ⟨0, Nat.zero_le _, rfl, HK.out⟩
      case round =>
        obtain ⟨t, ht, rfl, hpt⟩ := hrel
        have HT := Lib.hid hpt
        clear hpt HK
        have hkn : k * n + n ≤ 20000 := by
          have h1 : (k + 1) * n ≤ m * n := Nat.mul_le_mul_right n hlt
          rw [Nat.add_mul, Nat.one_mul, Nat.mul_comm m n] at h1
          omega
        by_cases hlt2 : t < n
        · go_wp2_with (at_builtin; refine wpList_append_own _ rfl _ _ 23 rfl w.heap.size 46 i0 _ 5 32 Try.underlying23 hi hz0 hz1 hz2 rfl (by decide) _ _ _ rfl (HT.out.1.alloc _) ⟨wr.heap.size, 0, none⟩ 1 1 (⟨2, (t : Int), 0, 0, 0⟩ : Ent).cells rfl rfl (new_cells wr ⟨2, (t : Int), 0, 0, 0⟩) (fun u hu => flat_one [⟨2, (t : Int), 0, 0, 0⟩] u (by simpa [flat] using hu)) (by simp only [maxLen]; omega) (by omega) (Nat.le_trans HT.out.2.size (by simp)) ?_; intro v' w4 hown' hgrow _; have HO := Lib.hid hown'; have HG := Lib.hid hgrow; clear hown' hgrow)
          go_roundw
          case rel => exact ⟨t + 1, by omega, by go_num, HT.out.next hlt2 HO.out HG.out⟩
          case measure => simp [intOf]; omega
        · obtain rfl : t = n := by omega
          go_wp2
          go_roundw
          case rel => exact ⟨k + 1, by omega, by go_num, by rw [Nat.add_mul, Nat.one_mul]; exact HT.out⟩
          case measure => simp [intOf]; omega
    · obtain rfl : k = m := by omega
      go_wp2
      go_ret
      exact EntsNew.of_own (by rw [Nat.mul_comm]; exact HK.out.1) HK.out.2

set_option maxHeartbeats 2000000 in
theorem roundsNone (w : World) (n m : Int) (hm : m ≤ 9223372036854775807) (h : n < 1 ∨ m < 1 ∨ 20000 < n * m) :
    Calls Try.prog 20 #[.int .i64 n, .int .i64 m] w (EntsNew w []) := by
  by_cases h1 : n < 1
  · clear h
    go_enter Try.func20, Try.ntmps20
    go_wp2
    go_ret
    exact entsNil w
  · by_cases h2 : m < 1
    · clear h
      go_enter Try.func20, Try.ntmps20
      go_wp2
      go_ret
      exact entsNil w
    · have hp : 20000 < n * m := by omega
      have hd : 20000 / m < n := by
        rw [Int.ediv_lt_iff_lt_mul (by omega)]; exact hp
      clear h hp
      have h3 : 1 ≤ m := by omega
      go_enter Try.func20, Try.ntmps20
      go_wp2
      go_ret
      exact entsNil w

set_option maxHeartbeats 2000000 in
theorem refRoundsNone (w : World) (n m : Int) (h : n < 1 ∨ m < 1 ∨ 20000 < n * m) :
    Calls Try.prog 24 #[.int .i64 n, .int .i64 m] w (EntsNew w []) := by
  by_cases h1 : n < 1
  · clear h
    go_enter Try.func24, Try.ntmps24
    go_wp2
    go_ret
    exact entsNil w
  · by_cases h2 : m < 1
    · clear h
      go_enter Try.func24, Try.ntmps24
      go_wp2
      go_ret
      exact entsNil w
    · by_cases h3 : 20000 < n
      · clear h
        go_enter Try.func24, Try.ntmps24
        go_wp2
        go_ret
        exact entsNil w
      · by_cases h4 : 20000 < m
        · clear h
          go_enter Try.func24, Try.ntmps24
          go_wp2
          go_ret
          exact entsNil w
        · have hp : 20000 < n * m := by omega
          have hb : n * m ≤ 20000 * 20000 := Int.mul_le_mul (by omega) (by omega) (by omega) (by omega)
          clear h
          go_enter Try.func24, Try.ntmps24
          go_wp2
          go_ret
          exact entsNil w

set_option maxHeartbeats 2000000 in
theorem refRoundsSome (w : World) (n m : Nat) (hn : 1 ≤ n) (hm : 1 ≤ m) (hq : n * m ≤ 20000) :
    Calls Try.prog 24 #[.int .i64 n, .int .i64 m] w (EntsNew w (pickL n (n * m))) := by
  obtain ⟨i0, hi, hz0, hz1, hz2⟩ := info_parts infoE
  have n1 : n ≤ 20000 := Nat.le_trans (Nat.le_mul_of_pos_right n hm) hq
  have m1 : m ≤ 20000 := Nat.le_trans (Nat.le_mul_of_pos_left m hn) hq
  have HP := Lib.hid (show ((n : Int) * (m : Int)) = ((n * m : Nat) : Int) by simp)
  have hpr : (n : Int) * (m : Int) ≤ 20000 := by rw [HP.out]; omega
  have hp0 : 0 ≤ (n : Int) * (m : Int) := by rw [HP.out]; omega
  have e1 : decide ((n : Int) < 1) = false := by simp; omega
  have e3 : decide (20000 < (n : Int)) = false := by simp; omega
  have e4 : decide (20000 < (m : Int)) = false := by simp; omega
  have e5 : decide (20000 < (n : Int) * (m : Int)) = false := by simp; omega
  have e2 : decide ((m : Int) < 1) = false := by simp; omega
  go_enter Try.func24, Try.ntmps24
  go_wp2
  have HS := Lib.hid (show Picked w n (0 * n) (.slice none 0 0) w from ⟨by simpa [pickL, flat] using World.ownsRow_nil w w.heap.size 46 5, Below.refl _ w⟩)
  go_loopw [5, 6] (fun v i wr => ∃ k : Nat, k ≤ m ∧ i = .int .i64 k ∧ Picked w n (k * n) v wr) (fun _ i _ => m - (intOf i).toNat)
  case atStart => exact ⟨0, Nat.zero_le _, rfl, HS.out⟩
  case round =>
    obtain ⟨k, hk, rfl, hpk⟩ := hrel
    have HK := Lib.hid hpk
    clear hpk HS
    by_cases hlt : k < m
    · go_wp2
      go_loopw [5, 7] (fun v i wr => ∃ t : Nat, t ≤ n ∧ i = .int .i64 t ∧ Picked w n (k * n + t) v wr) (fun _ i _ => n - (intOf i).toNat)
      case atStart => exact ⟨0, Nat.zero_le _, rfl, HK.out⟩
      case round =>
        obtain ⟨t, ht, rfl, hpt⟩ := hrel
        have HT := Lib.hid hpt
        clear hpt HK
        have hkn : k * n + n ≤ 20000 := by
          have h1 : (k + 1) * n ≤ m * n := Nat.mul_le_mul_right n hlt
          rw [Nat.add_mul, Nat.one_mul, Nat.mul_comm m n] at h1
          omega
        by_cases hlt2 : t < n
        · go_wp2_with (at_builtin; refine wpList_append_own _ rfl _ _ 23 rfl w.heap.size 46 i0 _ 5 32 Try.underlying23 hi hz0 hz1 hz2 rfl (by decide) _ _ _ rfl (HT.out.1.alloc _) ⟨wr.heap.size, 0, none⟩ 1 1 (⟨2, (t : Int), 0, 0, 0⟩ : Ent).cells rfl rfl (new_cells wr ⟨2, (t : Int), 0, 0, 0⟩) (fun u hu => flat_one [⟨2, (t : Int), 0, 0, 0⟩] u (by simpa [flat] using hu)) (by simp only [maxLen]; omega) (by omega) (Nat.le_trans HT.out.2.size (by simp)) ?_; intro v' w4 hown' hgrow _; have HO := Lib.hid hown'; have HG := Lib.hid hgrow; clear hown' hgrow)
          go_roundw
          case rel => exact ⟨t + 1, by omega, by go_num, HT.out.next hlt2 HO.out HG.out⟩
          case measure => simp [intOf]; omega
        · obtain rfl : t = n := by omega
          go_wp2
          go_roundw
          case rel => exact ⟨k + 1, by omega, by go_num, by rw [Nat.add_mul, Nat.one_mul]; exact HT.out⟩
          case measure => simp [intOf]; omega
    · obtain rfl : k = m := by omega
      go_wp2
      go_ret
      exact EntsNew.of_own (by rw [Nat.mul_comm]; exact HK.out.1) HK.out.2

theorem roundsOne (w : World) (n m : Int) (hn0 : -9223372036854775808 ≤ n) (hn : n ≤ 9223372036854775807) (hm0 : -9223372036854775808 ≤ m) (hm : m ≤ 9223372036854775807) :
    ∃ es : List Ent, es.length ≤ 20000 ∧ (∀ w, Calls Try.prog 20 #[.int .i64 n, .int .i64 m] w (EntsNew w es)) ∧ (∀ w, Calls Try.prog 24 #[.int .i64 n, .int .i64 m] w (EntsNew w es)) := by
  by_cases h : n < 1 ∨ m < 1 ∨ 20000 < n * m
  · exact ⟨[], by simp, fun w => roundsNone w n m hm h, fun w => refRoundsNone w n m h⟩
  · obtain ⟨a, rfl⟩ : ∃ a : Nat, n = a := ⟨n.toNat, by omega⟩
    obtain ⟨b, rfl⟩ : ∃ b : Nat, m = b := ⟨m.toNat, by omega⟩
    have hp : a * b ≤ 20000 := by
      have : ((a * b : Nat) : Int) = (a : Int) * b := by simp
      omega
    exact ⟨_, by rw [pickL_length]; exact hp, fun w => roundsSome w a b (by omega) (by omega) hp, fun w => refRoundsSome w a b (by omega) (by omega) hp⟩

set_option maxHeartbeats 1000000 in
/-- What the two tell of the same numbers is the same. -/
theorem roundsLaw (w : World) (n m : Int) (hn0 : -9223372036854775808 ≤ n) (hn : n ≤ 9223372036854775807) (hm0 : -9223372036854775808 ≤ m) (hm : m ≤ 9223372036854775807) :
    Calls Try.prog 15 #[.int .i64 n, .int .i64 m] w fun e w' => e = .returned (.bool true) ∧ Below w.heap.size w w' := by
  obtain ⟨es, hle, h1, h2⟩ := roundsOne w n m hn0 hn hm0 hm
  have H1 := Lib.hid h1
  have H2 := Lib.hid h2
  clear h1 h2 hn0 hn hm0 hm
  go_enter Try.func15, Try.ntmps15
  go_wp2_with fail
  refine (H1.out _).mono ?_
  rintro e w1 ⟨a1, n1, c1, rfl, s1, b1⟩
  have S1 := Lib.hid s1
  have B1 := Lib.hid b1
  clear s1 b1
  go_wp2_with fail
  refine (H2.out _).mono ?_
  rintro e w2 ⟨a2, n2, c2, rfl, s2, b2⟩
  have S2 := Lib.hid s2
  have S12 := Lib.hid (S1.out.keep b2)
  have B2 := Lib.hid (B1.out.trans (b2.mono B1.out.size))
  clear s2 b2
  have l1 : n1 ≤ 1000000 := by have := S1.out.1; omega
  have l2 : n2 ≤ 1000000 := by have := S2.out.1; omega
  go_wp2_with fail
  refine (sameAny _ _ _ _ _ _ _ _ _ S12.out S2.out l1 l2).mono ?_
  rintro e w3 ⟨rfl, b3⟩
  have B3 := Lib.hid (B2.out.trans (b3.mono B2.out.size))
  clear b3
  have hd : decide (es = es) = true := by simp
  rw [hd]
  go_wp2
  go_ret
  exact ⟨rfl, B3.out⟩

end Go.Proofs.Ytblkkafilabbkaa
