/-
  The walk of SkipHeights: for all numbers it answers true and leaves all old memory as it was.
-/
import Derived.Test.YtjcdbdhdmalfaaaSkipAt
namespace Go.Proofs.Ytjcdbdhdmalfaaa
open Go.RowKit

/-- On how many of the first k levels an item of a height is. -/
theorem one_level (v : Int) (h : Nat) (k : Nat) (hk : 1 ≤ k) : (lvlOf [⟨v, h⟩] (k : Int)).length = if k ≤ h then 1 else 0 := by
  unfold lvlOf
  by_cases e : k ≤ h
  · rw [if_pos e, List.filter_cons_of_pos (by simp; omega)]
    rfl
  · rw [if_neg e, List.filter_cons_of_neg (by simp; omega)]
    rfl

/-- How long a level is. -/
theorem levelLen {w : World} {F : Nat → Prop} {p : Nat} {most : Int} {l : List It} (h : Skip w F p most l) (k : Int) (n : Nat) (hn : (lvlOf l k).length = n) :
    Calls Try.prog 19 #[.pointer (some ⟨p, 0, none⟩), .int .i64 k] w fun e w' => ∃ ao cap, e = .returned (.slice ao n cap) ∧ Below w.heap.size w w' :=
  (levelR h k).mono fun _ _ ⟨ao, cap, he, _, _, _, hb⟩ => ⟨ao, cap, by rw [he, hn], hb⟩

def HRel (w : World) (p : Nat) (l : List It) (wr : World) : Prop := ∃ F, At w F p 3 l wr

set_option maxRecDepth 100000 in
set_option maxHeartbeats 8000000 in
theorem heightsWalk (v x k : Int) (_v0 : -2147483648 ≤ v) (_v1 : v ≤ 2147483647) (_x0 : -9223372036854775808 ≤ x) (_x1 : x ≤ 9223372036854775807) (k0 : -128 ≤ k) (k1 : k ≤ 127) (w : World) :
    Calls Try.prog 9 #[.int .i32 v, .int .i64 x, .int .i8 k] w fun e w' => e = .returned (.bool true) ∧ Below w.heap.size w w' := by
  clear _x0 _x1 _v0 _v1
  go_enter Try.func9, Try.ntmps9
  go_wp2
  have HL := Lib.hid (lit2 w x k .i64 3)
  have HB0 := Lib.hid (show Below w.heap.size w (w.alloc (.cells #[.int .i64 x, .int .i64 k] 3)) from (Below.refl _ w).alloc (Nat.le_refl _) _)
  generalize w.alloc (.cells #[.int .i64 x, .int .i64 k] 3) = W0 at *
  clear k0 k1
  go_loopw [8] (fun i wr => ∃ j : Nat, j ≤ 2 ∧ i = .int .i64 j ∧ Below W0.heap.size W0 wr) (fun i _ => 2 - (intOf i).toNat)
  case atStart => exact ⟨0, Nat.zero_le _, rfl, Below.refl _ _⟩
  case round =>
    obtain ⟨j, hj, rfl, hb⟩ := hrel
    have HB := Lib.hid hb
    by_cases hlt : j < 2
    · have HJ := Lib.hid hlt
      have hr := HL.out.keep hb
      clear hb
      go_wp2_with fail
      refine (newAny 3 wr).mono ?_
      rintro e w1 ⟨rfl, s1, bl1⟩
      rw [mostOf_self 3 (by decide) (by decide)] at s1
      have HA := Lib.hid (At.new s1 bl1)
      have HRd := Lib.hid hr
      clear s1 bl1 hr
      obtain ⟨z, hz⟩ : ∃ z, [x, k].getD j 0 = z := ⟨_, rfl⟩
      obtain ⟨b, off, hao, hbl, hc⟩ := (HRd.out.keep HA.out.2.1).2 (by omega)
      simp only [Option.some.injEq, Addr.mk.injEq, and_true] at hao
      obtain ⟨rfl, rfl⟩ := hao
      have cx := hc j hlt
      rw [Nat.zero_add, hz] at cx
      have HZ := Lib.hid hz
      clear hz hc
      have C := insertOk HA.out.1 (by decide) v z
      go_wp2_with fail
      refine C.mono ?_
      clear C
      rintro e w2 ⟨rfl, d2⟩
      obtain ⟨F2, a2, _, _⟩ := HA.out.next d2
      rw [show insIt ⟨v, hOf z⟩ [] = [⟨v, hOf z⟩] from rfl] at a2
      have HA2 := Lib.hid a2
      obtain ⟨b, off, hao, hbl, hc⟩ := (HRd.out.keep HA2.out.2.1).2 (by omega)
      simp only [Option.some.injEq, Addr.mk.injEq, and_true] at hao
      obtain ⟨rfl, rfl⟩ := hao
      have hbl' := hbl
      clear d2 a2 cx HA hc hbl
      obtain ⟨hh, hhe⟩ : ∃ hh, hOf z = hh := ⟨_, rfl⟩
      rw [hhe] at HA2
      have HHE := Lib.hid hhe
      clear hhe
      go_wp2
      go_loopw [10, 11] (fun o i wi => ∃ n : Nat, n ≤ 8 ∧ i = .int .i64 ((n + 1 : Nat) : Int) ∧ o = .int .i64 ((min n hh : Nat) : Int) ∧ HRel wr wr.heap.size [⟨v, hh⟩] wi) (fun _ i _ => 9 - (intOf i).toNat)
      case atStart => exact ⟨0, by omega, rfl, by simp, ⟨F2, HA2.out⟩⟩
      case round =>
        obtain ⟨n, hn, rfl, rfl, F3, a3⟩ := hrel
        have HA3 := Lib.hid a3
        clear a3
        by_cases h8 : n < 8
        · have hlv := one_level v hh (n + 1) (by omega)
          have hm : ((min (n + 1) hh : Nat) : Int) = ((min n hh : Nat) : Int) + (((if n + 1 ≤ hh then 1 else 0 : Nat)) : Int) := by split <;> omega
          have C := levelLen HA3.out.1 ((n + 1 : Nat) : Int) _ hlv
          have HM := Lib.hid hm
          have m0 : (0 : Int) ≤ ((min n hh : Nat) : Int) := by omega
          have m8 : ((min n hh : Nat) : Int) ≤ 8 := by omega
          have i8 : ((if n + 1 ≤ hh then 1 else 0 : Nat) : Int) ≤ 1 := by split <;> simp
          have i0 : (0 : Int) ≤ ((if n + 1 ≤ hh then 1 else 0 : Nat) : Int) := by omega
          clear hlv hm
          generalize (if n + 1 ≤ hh then 1 else 0) = q at *
          generalize min n hh = y at *
          generalize hN : n + 1 = N at *
          have n8 : (N : Int) ≤ 8 := by omega
          have HNe := Lib.hid hN
          clear hN
          go_wp2_with fail
          refine C.mono ?_
          clear C
          rintro e w4 ⟨ao, cap, rfl, bl4⟩
          have HA4 := Lib.hid (HA3.out.fresh bl4)
          clear bl4 HA3
          go_wp2
          go_roundw
          case rel => exact ⟨n + 1, by omega, by have := HNe.out; go_num, by rw [HNe.out, HM.out], ⟨F3, HA4.out⟩⟩
          case measure => have := HNe.out; simp [intOf]; omega
        · obtain rfl : n = 8 := by omega
          obtain ⟨b, off, hao, hbl, hc⟩ := (HRd.out.keep HA3.out.2.1).2 (by omega)
          simp only [Option.some.injEq, Addr.mk.injEq, and_true] at hao
          obtain ⟨rfl, rfl⟩ := hao
          have cz := hc j hlt
          rw [Nat.zero_add, HZ.out] at cz
          have HQ := Lib.hid (HB.out.trans (HA3.out.2.1.mono HB.out.size))
          clear hc HA3
          rcases (show z < 1 ∨ z = 1 ∨ 8 < z ∨ z = 8 ∨ (1 < z ∧ z < 8) from by omega) with h1 | h2 | h3 | h4 | h5
          · have hv : ((min 8 hh : Nat) : Int) = 1 := (by have := HHE.out; unfold hOf at this; rw [if_pos ‹z < 1›] at this; omega)
            rw [hv]
            clear hv
            go_wp2
            go_roundw
            case rel => exact ⟨j + 1, by omega, by go_num, HQ.out⟩
            case measure => simp [intOf]; omega
          · obtain rfl : z = 1 := by omega
            have hv : ((min 8 hh : Nat) : Int) = 1 := (by have := HHE.out; rw [show hOf 1 = 1 from rfl] at this; omega)
            rw [hv]
            clear hv
            go_wp2
            go_roundw
            case rel => exact ⟨j + 1, by omega, by go_num, HQ.out⟩
            case measure => simp [intOf]; omega
          · have hv : ((min 8 hh : Nat) : Int) = 8 := (by have := HHE.out; unfold hOf at this; rw [if_neg (by omega), if_pos ‹8 < z›] at this; omega)
            rw [hv]
            clear hv
            go_wp2
            go_roundw
            case rel => exact ⟨j + 1, by omega, by go_num, HQ.out⟩
            case measure => simp [intOf]; omega
          · obtain rfl : z = 8 := by omega
            have hv : ((min 8 hh : Nat) : Int) = 8 := (by have := HHE.out; rw [show hOf 8 = 8 from rfl] at this; omega)
            rw [hv]
            clear hv
            go_wp2
            go_roundw
            case rel => exact ⟨j + 1, by omega, by go_num, HQ.out⟩
            case measure => simp [intOf]; omega
          · obtain ⟨g1, g8⟩ := h5
            have hv : ((min 8 hh : Nat) : Int) = z := (by have := hOf_self z (by omega) (by omega); have := HHE.out; omega)
            rw [hv]
            clear hv
            go_wp2
            go_roundw
            case rel => exact ⟨j + 1, by omega, by go_num, HQ.out⟩
            case measure => simp [intOf]; omega
    · obtain rfl : j = 2 := by omega
      clear hb
      go_wp2_with fail
      refine (known _).mono ?_
      rintro e w2 ⟨rfl, b2⟩
      have HQ := Lib.hid ((HB0.out.trans (HB.out.mono HB0.out.size)).trans (b2.mono (Nat.le_trans HB0.out.size HB.out.size)))
      clear b2
      go_wp2
      go_ret
      exact ⟨rfl, HQ.out⟩

end Go.Proofs.Ytjcdbdhdmalfaaa
