/-
  MatchNested: the walk. Conditions: arguments as they came in.
-/
import Derived.Test.YtephmkekgmpnpaaNestPl9
import Derived.Test.YtephmkekgmpnpaaKnow9
namespace Go.Proofs.Ytephmkekgmpnpaa
open Go.RowKit

set_option maxHeartbeats 1600000 in
theorem metByYes {w : World} {gw n : Nat} {ps : List Int} (h : Rw w gw .i64 3 ps) (hn : ps.length = n) (x : Int) (t e : Nat) (hte : t < e) (hen : e ≤ n) (ht : ps.getD t 0 = x) (hb : n ≤ 1000000) :
    Calls Try.prog 19 #[.slice (some ⟨gw, 0, none⟩) n n, .int .i64 x, .int .i64 e] w fun r w' => r = .returned (.bool true) ∧ w = w' := by
  have HR := Lib.hid h
  have HN := Lib.hid hn
  have HT := Lib.hid ht
  clear h hn ht
  go_enter Try.func19, Try.ntmps19
  go_wp2
  go_loop [7] (fun i => ∃ q : Nat, q ≤ t ∧ i = .int .i64 q) (fun i => t - (intOf i).toNat)
  case atStart => exact ⟨0, Nat.zero_le _, rfl⟩
  case round =>
    obtain ⟨q, hq, rfl⟩ := hrel
    have c := HR.out.cell (i := q) (by rw [HN.out]; omega)
    have i1 : (q : Int) < (n : Int) := by omega
    have i2 : (q : Int) < (e : Int) := by omega
    obtain ⟨z, hz⟩ : ∃ z, ps.getD q 0 = z := ⟨_, rfl⟩
    rw [hz] at c
    by_cases hx : z = x
    · subst hx
      clear hz
      go_wp2
      go_ret
      exact ⟨rfl, rfl⟩
    · have hqt : q ≠ t := fun h => hx (by rw [← hz, h, HT.out])
      have hx2 : (z == x) = false := by simpa using hx
      clear hz hx
      go_wp2
      go_round
      case rel => exact ⟨q + 1, by omega, by go_num⟩
      case measure => simp [intOf]; omega

/-- The operations of bytes are pushes and pops. -/
theorem kinds_two (xs : List Int) {i : Nat} (h : i < (opsL 2 xs).length) : kindsOf (opsL 2 xs) i = 1 ∨ kindsOf (opsL 2 xs) i = 2 := by
  have hm : (opsL 2 xs).getD i (0, 0) ∈ opsL 2 xs := by
    simp [List.getD, h]
  unfold kindsOf
  generalize (opsL 2 xs).getD i (0, 0) = o at *
  simp only [opsL, List.mem_map] at hm
  obtain ⟨x, _, rfl⟩ := hm
  have m0 := Int.emod_nonneg x (show (2 : Int) ≠ 0 by omega)
  have m1 := Int.emod_lt_of_pos x (show (0 : Int) < 2 by omega)
  simp only [opOf]
  omega

set_option maxRecDepth 100000 in
set_option maxHeartbeats 16000000 in
theorem nestWalk {w : World} (a b : Int) (ac : Option Addr) (lc cc : Nat) (xs : List Int) (a0 : 0 ≤ a) (a1 : a ≤ 255) (b0 : 0 ≤ b) (b1 : b ≤ 255) (hx : ArgBytes w ac lc cc xs) (hl : lc ≤ 140737488351232) :
    Calls Try.prog 6 #[.int .u8 a, .int .u8 b, .slice ac lc cc] w fun e w' => e = .returned (.bool true) ∧ Below w.heap.size w w' := by
  have C := opsAny w ac lc cc xs 2 hx.1 hx.2.2.2 hl (by omega) (by omega)
  have HL := Lib.hid (opsL_len 2 xs)
  have HK := Lib.hid (fun i (h : i < (opsL 2 xs).length) => kinds_two xs h)
  clear hx
  generalize opsL 2 xs = os at *
  go_enter Try.func6, Try.ntmps6
  go_wp2_with fail
  refine C.mono ?_
  clear C
  rintro e w1 ⟨ao, cap, rfl, o1, _, b1'⟩
  obtain ⟨n, hn⟩ : ∃ n, os.length = n := ⟨_, rfl⟩
  rw [hn] at o1 ⊢
  have hn2 : n ≤ 80 := by rw [← hn]; exact HL.out
  have C := pairsAny w1 (a % 5) (b % 12) ao n cap os o1 (by omega)
  have hm := mostOf_in (b % 12)
  have hh := haveOf_in (a % 5) (mostOf (b % 12)) hm.1
  generalize mostOf (b % 12) = m at *
  generalize haveOf (a % 5) m = h at *
  have HB1 := Lib.hid b1'
  have HO1 := Lib.hid o1
  have HN := Lib.hid hn
  clear b1' o1 hn HL
  go_wp2_with fail
  refine C.mono ?_
  clear C
  rintro e w2 ⟨gw, gc, rfl, r2, r3, _, _, _, b2⟩
  have HB2 := Lib.hid (HB1.out.trans (b2.mono HB1.out.size))
  have HO := Lib.hid (HO1.out.keep b2)
  have HP := Lib.hid r2
  have HC := Lib.hid r3
  have HH := Lib.hid (And.intro hh.1 hh.2)
  clear b2 r2 r3 HB1 HO1 hh hm a0 a1 b0 b1
  go_wp2
  go_loopw [10] (fun i wr => ∃ k : Nat, k ≤ n ∧ i = .int .i64 k ∧ Hid (Below w2.heap.size w2 wr)) (fun i _ => n - (intOf i).toNat)
  case atStart => exact ⟨0, Nat.zero_le _, rfl, Lib.hid (Below.refl _ _)⟩
  case round =>
    obtain ⟨k, hk, rfl, HBr⟩ := hrel
    by_cases hlt : k < n
    · have c := (HP.out.below HBr.out).cell (i := k) (by rw [pairsL_length]; exact hlt)
      rw [pairsL_getD hlt] at c
      have hpi := lineP_in (lineAt_ok HH.out.1 HH.out.2 (kindsOf os) k) (kindsOf os k)
      have HNP := Lib.hid (fun (q : Nat) => nest_pop (k := k) (j := q) (ks := kindsOf os) HH.out.1 HH.out.2)
      have HNQ := Lib.hid (fun (q : Nat) => nest_push (k := k) (j := q) (ks := kindsOf os) HH.out.1 HH.out.2)
      have HCK := Lib.hid (show ∀ wx, Below w2.heap.size w2 wx → wx.cell? ⟨gw, k, none⟩ = some (.int .i64 (lineP (lineAt m h (kindsOf os) k) (kindsOf os k))) from fun wx hb => by
        have := (HP.out.below hb).cell (i := k) (by rw [pairsL_length]; exact hlt)
        rwa [pairsL_getD hlt] at this)
      obtain ⟨p, hp⟩ : ∃ p, lineP (lineAt m h (kindsOf os) k) (kindsOf os k) = p := ⟨_, rfl⟩
      simp only [hp] at c hpi HNP HNQ HCK
      clear hp
      obtain ⟨p0, p1⟩ := hpi
      have i1 : (k : Int) < (n : Int) := by omega
      go_wp2
      clear c
      go_loopw [11] (fun i wr => ∃ j : Int, i = .int .i64 j ∧ p < j ∧ (0 ≤ p → j ≤ k) ∧ j ≤ n ∧ Hid (Below w2.heap.size w2 wr)) (fun i _ => (n - (intOf i)).toNat)
      case atStart => exact ⟨p + 1, rfl, by omega, fun _ => by omega, by omega, HBr⟩
      case round =>
        obtain ⟨jj, rfl, hj1, hj2, hj3, HBi⟩ := hrel
        clear HBr
        have c := HCK.out _ HBi.out
        by_cases hp : 0 ≤ p
        · obtain ⟨j, hj⟩ : ∃ j : Nat, jj = j := ⟨jj.toNat, by omega⟩
          subst hj
          by_cases hjk : j < k
          · have hjn : j < n := by omega
            obtain ⟨ob, off, rfl, bl, hc⟩ := (HO.out.keep HBi.out).2 (by omega)
            have c0 := (hc j hjn).1
            have c1 := (HP.out.below HBi.out).cell (i := j) (by rw [pairsL_length]; exact hjn)
            have c2 := (HC.out.below HBi.out).cell (i := j) (by rw [codesL_length]; exact hjn)
            rw [pairsL_getD hjn] at c1
            rw [codesL_getD hjn] at c2
            change wr.cell? ⟨ob, off + j * 2, none⟩ = some (.int .u8 (kindsOf os j)) at c0
            have i2 : (j : Int) < (n : Int) := by omega
            have i3 : (j : Int) < (k : Int) := by omega
            clear hc bl hj2 hj3
            rcases HK.out j (by rw [HN.out]; exact hjn) with hkd | hkd
            · have HQ := Lib.hid (HNQ.out j hp hj1 hjk hkd)
              rw [hkd] at c0 c1 c2
              rw [show lineP (lineAt m h (kindsOf os) j) 1 = -1 by simp [lineP]] at c1
              have HKD := Lib.hid hkd
              generalize hz : lineC m (lineAt m h (kindsOf os) j) 1 = z at *
              have HZ := Lib.hid hz
              have d1 : decide (p < -1) = false := by simp; omega
              clear hz hkd HNP HNQ HCK
              by_cases hz1 : z = 1
              · subst hz1
                obtain ⟨t, ht1, ht2⟩ := HQ.out (by rw [HKD.out]; exact HZ.out)
                have HT := Lib.hid (And.intro ht1 ht2)
                clear HQ ht1 ht2
                go_wp2
                go_quiet (fail)
                have M := metByYes (HP.out.below (below_drewN HBi.out nq)) (n := n) pairsL_length j t k HT.out.1 (by omega) (by rw [pairsL_getD (by have := HT.out.1; omega)]; exact HT.out.2) (by omega)
                clear d1 c c1
                go_wp2_with ((with_reducible refine M.mono ?_); rintro e w5 ⟨rfl, rfl⟩)
                go_roundw
                case rel => exact ⟨((j : Int) + 1), by go_num, by omega, fun _ => by omega, by omega, Lib.hid (below_drewN HBi.out _)⟩
                case measure => simp [intOf]; omega
              · have hz2 : (z == 1) = false := by simpa using hz1
                clear HQ hz1
                go_wp2
                go_quiet (fail)
                clear d1 c
                go_wp2
                go_roundw
                case rel => exact ⟨((j : Int) + 1), by go_num, by omega, fun _ => by omega, by omega, Lib.hid (below_drewN HBi.out _)⟩
                case measure => simp [intOf]; omega
            · have hlt2 := HNP.out j hp hj1 hjk hkd
              rw [hkd] at c0 c1 c2 hlt2
              have d1 : decide (p < lineP (lineAt m h (kindsOf os) j) 2) = true := by simpa using hlt2
              generalize lineP (lineAt m h (kindsOf os) j) 2 = z at *
              generalize lineC m (lineAt m h (kindsOf os) j) 2 = y at *
              clear hkd HNP HNQ HCK
              go_wp2
              go_quiet (fail)
              clear d1 c
              go_wp2
              go_roundw
              case rel => exact ⟨((j : Int) + 1), by go_num, by omega, fun _ => by omega, by omega, Lib.hid (below_drewN HBi.out _)⟩
              case measure => simp [intOf]; omega
          · have hjk2 : ¬ (j : Int) < (k : Int) := by omega
            clear HNP HNQ HCK
            go_wp2
            go_roundw
            case rel => exact ⟨k + 1, by omega, by go_num, HBi⟩
            case measure => simp [intOf]; omega
        · clear HNP HNQ HCK hj2
          go_wp2
          go_roundw
          case rel => exact ⟨k + 1, by omega, by go_num, HBi⟩
          case measure => simp [intOf]; omega
    · obtain rfl : n = k := by omega
      clear hlt
      go_wp2_with fail
      refine (known _).mono ?_
      rintro e w3 ⟨rfl, b3⟩
      have HB3 := Lib.hid (HB2.out.trans ((HBr.out.trans (b3.mono HBr.out.size)).mono HB2.out.size))
      clear b3
      go_wp2
      go_ret
      exact ⟨rfl, HB3.out⟩

end Go.Proofs.Ytephmkekgmpnpaa
