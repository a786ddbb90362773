/-
  MatchNone: the walk. Conditions: operations as they came in.
-/
import Derived.Test.YtephmkekgmpnpaaApplyC9
import Derived.Test.YtephmkekgmpnpaaKnow9
namespace Go.Proofs.Ytephmkekgmpnpaa
open Go.RowKit

/-- What is told where there is no room, and no item. -/
def noneC (kind : Int) : Int := if kind = 1 then 3 else if kind = 2 then 4 else 5
theorem itemsAt_none (os : List (Int × Int)) : ∀ k, itemsAt 0 [] os k = []
  | 0 => rfl
  | k + 1 => by
    simp only [itemsAt, itemsAt_none os k, stkL]
    split
    · rw [if_neg (by simp)]
    · split <;> rfl
theorem none_res {os : List (Int × Int)} {n k : Nat} (h : k < n) : (resL 0 [] os n).getD k (0, 0) = (noneC (kindsOf os k), 0) := by
  rw [resL_getD h]
  by_cases k1 : kindsOf os k = 1
  · simp [codeAt, valAt, itemsAt_none, stkC, stkV, noneC, k1]
  · by_cases k2 : kindsOf os k = 2
    · simp [codeAt, valAt, itemsAt_none, stkC, stkV, noneC, k2]
    · simp [codeAt, valAt, itemsAt_none, stkC, stkV, noneC, k1, k2]
theorem none_pair {ks : Nat → Int} {n k : Nat} (h : k < n) : (pairsL 0 0 ks n).getD k 0 = -1 := by
  rw [pairsL_getD h, lineAt_none]
  simp [lineP]
theorem none_code {ks : Nat → Int} {n k : Nat} (h : k < n) : (codesL 0 0 ks n).getD k 0 = noneC (ks k) := by
  rw [codesL_getD h, lineAt_none]
  simp only [lineC, noneC]
  split
  · rw [if_neg (by simp)]
  · split
    · simp
    · rfl

set_option maxRecDepth 100000 in
set_option maxHeartbeats 8000000 in
theorem noneWalk {w : World} (ap : Option Addr) (n cap : Nat) (os : List (Int × Int)) (ho : ArgOps w ap n cap os) (hn : n ≤ 140737488351232) :
    Calls Try.prog 7 #[.slice ap n cap] w fun e w' => e = .returned (.bool true) ∧ Below w.heap.size w w' := by
  have HO := Lib.hid ho.1
  have HOK := Lib.hid ho.2.2.2
  clear ho
  by_cases h1 : 100 < (n : Int)
  · go_enter Try.func7, Try.ntmps7
    go_wp2_with fail
    refine (known _).mono ?_
    rintro e w1 ⟨rfl, b1⟩
    have HB := Lib.hid b1
    clear b1
    go_wp2
    go_ret
    exact ⟨rfl, HB.out⟩
  · have C := applyAny (w := w) (F := fun _ => False) (sp := none) (most := 0) (zs := []) ⟨rfl, rfl⟩ (fun _ h => h.elim) ap n cap os HO.out (fun _ _ _ h => h) (by omega)
    simp only [ptrO, Option.map_none] at C
    go_enter Try.func7, Try.ntmps7
    go_wp2_with fail
    refine C.mono ?_
    clear C
    rintro e w1 ⟨gt, F1, rfl, r1, _, wr1, _, _, _⟩
    have b1 : Below w.heap.size w w1 := wr1.below (Nat.le_refl _) (fun _ h => h.elim)
    have ho1 := HO.out.keep b1
    have C := pairsAny w1 0 0 ap n cap os ho1 (by omega)
    rw [show mostOf 0 = 0 from rfl, show haveOf 0 0 = 0 from rfl] at C
    have HB1 := Lib.hid b1
    have HR1 := Lib.hid r1
    have HO1 := Lib.hid ho1
    clear b1 r1 wr1 ho1
    go_wp2_with fail
    refine C.mono ?_
    clear C
    rintro e w2 ⟨gw, gc, rfl, r2, r3, _, _, _, b2⟩
    have HR := Lib.hid (HR1.out.below b2)
    have HP := Lib.hid r2
    have HC := Lib.hid r3
    have HB2 := Lib.hid (HB1.out.trans (b2.mono HB1.out.size))
    have HO2 := Lib.hid (HO1.out.keep b2)
    clear r2 r3 b2 HB1 HR1 HO1
    go_wp2
    have hq := eqSelf
    go_loop [6] (fun i => ∃ k : Nat, k ≤ n ∧ i = .int .i64 k) (fun i => n - (intOf i).toNat)
    case atStart => exact ⟨0, Nat.zero_le _, rfl⟩
    case round =>
      obtain ⟨k, hk, rfl⟩ := hrel
      by_cases hlt : k < n
      · obtain ⟨b, off, rfl, bl, hc⟩ := HO2.out.2 (by omega)
        have c0 := (hc k hlt).1
        have c1 := HP.out.cell (i := k) (by rw [pairsL_length]; exact hlt)
        have c2 := HC.out.cell (i := k) (by rw [codesL_length]; exact hlt)
        obtain ⟨c3, c4⟩ := HR.out.cells (i := k) (by rw [resL_length]; exact hlt)
        rw [none_pair hlt] at c1
        rw [none_code hlt] at c2
        rw [none_res hlt] at c3 c4
        have i1 : (k : Int) < (n : Int) := by omega
        change w2.cell? ⟨b, off + k * 2, none⟩ = some (.int .u8 (kindsOf os k)) at c0
        simp only at c3 c4
        clear hc bl
        generalize kindsOf os k = kd at *
        by_cases k1 : kd = 1
        · subst k1
          rw [show noneC 1 = 3 from rfl] at c2 c3
          go_wp2
          go_round
          case rel => exact ⟨k + 1, by omega, by go_num⟩
          case measure => simp [intOf]; omega
        · by_cases k2 : kd = 2
          · subst k2
            rw [show noneC 2 = 4 from rfl] at c2 c3
            go_wp2
            go_round
            case rel => exact ⟨k + 1, by omega, by go_num⟩
            case measure => simp [intOf]; omega
          · rw [show noneC kd = 5 by unfold noneC; rw [if_neg k1, if_neg k2]] at c2 c3
            have k3 : (kd == 1) = false := by simpa using k1
            have k4 : (kd == 2) = false := by simpa using k2
            clear k1 k2
            go_wp2
            go_round
            case rel => exact ⟨k + 1, by omega, by go_num⟩
            case measure => simp [intOf]; omega
      · obtain rfl : n = k := by omega
        clear hlt hk
        go_wp2_with fail
        refine (known _).mono ?_
        rintro e w3 ⟨rfl, b3⟩
        have HB3 := Lib.hid (HB2.out.trans (b3.mono HB2.out.size))
        clear b3
        go_wp2
        go_ret
        exact ⟨rfl, HB3.out⟩

end Go.Proofs.Ytephmkekgmpnpaa
