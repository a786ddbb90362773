/-
  The walk of RingTurns: for all numbers and bytes, either way, it answers true and leaves all old memory as it was.
-/
import Derived.Test.YthjcfeljbmehmaaRngRun
namespace Go.Proofs.Ythjcfeljbmehmaa
open Go.RowKit

/-- Operations in new memory lie beside a deque that was there. -/
theorem off_new {w : World} {F : Nat → Prop} {ao : Option Addr} (hF : ∀ g, F g → g < w.heap.size) (ho : ∀ a, ao = some a → w.heap.size ≤ a.block) : Off F ao := fun a ha hg => by have := hF _ hg; have := ho a ha; omega

/-- The items, turned by j. -/
def spun (zs : List Int) (j : Nat) : List Int := zs.drop j ++ zs.take j
theorem spun_len (zs : List Int) (j : Nat) (h : j ≤ zs.length) : (spun zs j).length = zs.length := by simp [spun]; omega
theorem spun_front (zs : List Int) (j : Nat) (h : j < zs.length) : spun zs j = zs.getD j 0 :: (zs.drop (j + 1) ++ zs.take j) := by
  unfold spun
  rw [show zs.drop j = zs.getD j 0 :: zs.drop (j + 1) by rw [List.drop_eq_getElem_cons h]; simp [List.getD, h]]; rfl
theorem spun_next (zs : List Int) (j : Nat) (h : j < zs.length) : zs.drop (j + 1) ++ zs.take j ++ [zs.getD j 0] = spun zs (j + 1) := by
  unfold spun
  rw [List.take_succ_eq_append_getElem h]; simp [List.getD, h]
theorem spun_back (zs : List Int) (j : Nat) (h : j < zs.length) : spun zs (j + 1) = (zs.drop (j + 1) ++ zs.take j) ++ [zs.getD j 0] := (spun_next zs j h).symm
theorem spun_ahead (zs : List Int) (j : Nat) (h : j < zs.length) : zs.getD j 0 :: (zs.drop (j + 1) ++ zs.take j) = spun zs j := (spun_front zs j h).symm
theorem spun_zero (zs : List Int) : spun zs 0 = zs := by simp [spun]
theorem spun_all (zs : List Int) : spun zs zs.length = zs := by simp [spun]

/-- Where the items stand behind k rounds. -/
def side (left : Bool) (k m : Nat) : Nat := match left with | true => k | false => m - k

/-- What holds at each round's head: turned by j, and k rounds are done. -/
def TurnRel (w : World) (q n K m : Nat) (zs : List Int) (left : Bool) (i : Value) (wr : World) : Prop :=
  ∃ (k : Nat) (F' : Nat → Prop), k ≤ m ∧ i = .int .i64 k ∧ At w F' q n (spun zs (side left k m)) wr ∧ Beside F' wr (some ⟨K, 0, none⟩) m zs

set_option maxRecDepth 100000 in
set_option maxHeartbeats 8000000 in
theorem turnsLeft {w : World} (most : Int) (ao : Option Addr) (len cap : Nat) (xs : List Int) (m0 : 0 ≤ most) (m1 : most ≤ 255) (hx : ArgBytes w ao len cap xs) (hlen : len ≤ 140737488351232) :
    Calls Try.prog 8 #[.int .u8 most, .slice ao len cap, .bool true] w fun e w' => e = .returned (.bool true) ∧ Below w.heap.size w w' := by
  obtain ⟨n, hn⟩ : ∃ n : Nat, (n : Int) = 1 + most % 12 := ⟨(1 + most % 12).toNat, by omega⟩
  have hn12 : n < 13 := by omega
  have HN := Lib.hid hn
  have HX := Lib.hid hx.1
  have HY := Lib.hid hx.2.2.2
  clear hn hx
  go_enter Try.func8, Try.ntmps8
  go_wp2_with fail
  rw [← HN.out]
  clear HN m0 m1
  refine (newAny n w).mono ?_
  rintro e w1 ⟨q, rfl, s1, b1⟩
  rw [mostOf_self n (by omega) (by omega)] at s1
  have HA1 := Lib.hid (At.new s1 b1)
  clear s1 b1
  by_cases hl : 60 < len
  · go_wp2_with (go_at_call 10; refine (known _).mono ?_; rintro e w2 ⟨rfl, b2⟩; have HB2 := Lib.hid (HA1.out.fresh b2).2.1; clear b2)
    go_ret
    exact ⟨rfl, HB2.out⟩
  · have hl2 : len ≤ 60 := by omega
    clear hl hlen
    have C := opsAny w1 ao len cap xs 4 (HX.out.keep HA1.out.2.1) HY.out (by omega) (by omega) (by omega)
    go_wp2_with fail
    refine C.mono ?_
    clear C
    rintro e w2 ⟨oo, oc, rfl, o2, of2, b2⟩
    have HA2 := Lib.hid (HA1.out.fresh b2)
    have C := runAny HA2.out.1 oo _ oc _ o2 (off_new HA1.out.lt of2) (fun o ho => (opsL_ok 4 xs HY.out (by omega) (by omega) o ho).1) (by have := opsL_len 4 xs; omega)
    clear o2 of2 b2 HA1
    generalize runL n [] (opsL 4 xs) = zs at *
    generalize (opsL 4 xs).length = ol at *
    go_wp2_with fail
    refine C.mono ?_
    clear C
    rintro e w3 ⟨rfl, d3⟩
    obtain ⟨F3, a3, _, _⟩ := HA2.out.next d3
    have HA3 := Lib.hid a3
    clear d3 a3 HA2
    obtain ⟨m, hm⟩ : ∃ m, zs.length = m := ⟨_, rfl⟩
    have hr : (m : Int) ≤ n := by have := HA3.out.1.room; omega
    have C := itemsBeside HA3.out.1 m hm
    go_wp2_with fail
    refine C.mono ?_
    clear C
    rintro e w4 ⟨rfl, s4, b4⟩
    have HM := Lib.hid hm
    have HS := Lib.hid (show TurnRel w q n w3.heap.size m zs true (.int .i64 0) w4 from ⟨0, F3, Nat.zero_le _, rfl, by have := HA3.out.fresh b4; simpa [side, spun_zero, ← hm, spun_all] using this, s4⟩)
    clear s4 b4 HA3 hm
    generalize w3.heap.size = K at *
    go_wp2
    go_loopw [9] (fun i wr => TurnRel w q n K m zs true i wr) (fun i _ => m - (intOf i).toNat)
    case atStart => exact HS.out
    case round =>
      obtain ⟨k, F', hk, rfl, ha, hbe⟩ := hrel
      have HBe := Lib.hid hbe
      clear HS hbe
      by_cases hlt : k < m
      · have i0 : (k : Int) < m := by omega
        have hkl : k < zs.length := by rw [HM.out]; exact hlt
        have HA := Lib.hid (show At w F' q n (zs.getD k 0 :: (zs.drop (k + 1) ++ zs.take k)) wr from by have := ha; rwa [show side true k m = k from rfl, spun_front zs k hkl] at this)
        have HE := Lib.hid (spun_next zs k hkl)
        have HLN := Lib.hid (show (zs.drop (k + 1) ++ zs.take k).length + 1 = m from by simp only [List.length_append, List.length_drop, List.length_take, HM.out]; omega)
        have HT := Lib.hid (show (spun zs (k + 1)).length = m from by rw [spun_len zs _ (by omega), HM.out])
        have HI := Lib.hid (show side true (k + 1) m = k + 1 from rfl)
        clear hkl ha
        generalize zs.getD k 0 = z at *
        generalize zs.drop (k + 1) ++ zs.take k = ys at *
        have C := popLOk z HA.out.1
        go_wp2_with fail
        refine C.mono ?_
        clear C
        rintro e w5 ⟨rfl, d5⟩
        obtain ⟨F5, a5, wr5, l5⟩ := HA.out.next d5
        have HA5 := Lib.hid a5
        have HBe5 := Lib.hid (HBe.out.off wr5 l5)
        clear d5 a5 wr5 l5 HA HBe
        have C := pushROk HA5.out.1 z (by have := HLN.out; omega)
        rw [HE.out] at C
        go_wp2_with fail
        refine C.mono ?_
        clear C
        rintro e w6 ⟨rfl, d6⟩
        obtain ⟨F6, a6, wr6, l6⟩ := HA5.out.next d6
        have H6 := Lib.hid (show TurnRel w q n K m zs true (.int .i64 ((k : Int) + 1)) w6 from ⟨k + 1, F6, by omega, by go_num, by rw [HI.out]; exact a6, HBe5.out.off wr6 l6⟩)
        have C := lenAny a6.1
        rw [HT.out] at C
        clear d6 a6 wr6 l6 HA5 HBe5
        go_wp2_with fail
        refine C.mono ?_
        clear C
        rintro e w' ⟨rfl, rfl⟩
        go_wp2
        go_roundw
        case rel => exact H6.out
        case measure => simp [intOf]; omega
      · obtain rfl : k = m := by omega
        have HA := Lib.hid (show At w F' q n zs wr from by have := ha; rwa [show side true k k = k from rfl, ← HM.out, spun_all] at this)
        clear ha
        go_wp2_with fail
        refine (known _).mono ?_
        rintro e w7 ⟨rfl, b7⟩
        have HA7 := Lib.hid (HA.out.fresh b7)
        have HS7 := Lib.hid (HBe.out.keep b7)
        clear b7 HA HBe
        have C := itemsBeside HA7.out.1 k HM.out
        go_wp2_with fail
        refine C.mono ?_
        clear C
        rintro e w8 ⟨rfl, s8, b8⟩
        have C := sameEq w8 _ _ k k k zs s8.1 (HS7.out.keep b8).1 (by omega)
        have HA8 := Lib.hid (HA7.out.fresh b8)
        clear s8 b8 HA7 HS7
        go_wp2_with fail
        refine C.mono ?_
        clear C
        rintro e w9 ⟨rfl, b9⟩
        have HA9 := Lib.hid (HA8.out.fresh b9)
        clear b9 HA8
        go_wp2
        go_ret
        exact ⟨rfl, HA9.out.2.1⟩

set_option maxRecDepth 100000 in
set_option maxHeartbeats 8000000 in
theorem turnsRight {w : World} (most : Int) (ao : Option Addr) (len cap : Nat) (xs : List Int) (m0 : 0 ≤ most) (m1 : most ≤ 255) (hx : ArgBytes w ao len cap xs) (hlen : len ≤ 140737488351232) :
    Calls Try.prog 8 #[.int .u8 most, .slice ao len cap, .bool false] w fun e w' => e = .returned (.bool true) ∧ Below w.heap.size w w' := by
  obtain ⟨n, hn⟩ : ∃ n : Nat, (n : Int) = 1 + most % 12 := ⟨(1 + most % 12).toNat, by omega⟩
  have hn12 : n < 13 := by omega
  have HN := Lib.hid hn
  have HX := Lib.hid hx.1
  have HY := Lib.hid hx.2.2.2
  clear hn hx
  go_enter Try.func8, Try.ntmps8
  go_wp2_with fail
  rw [← HN.out]
  clear HN m0 m1
  refine (newAny n w).mono ?_
  rintro e w1 ⟨q, rfl, s1, b1⟩
  rw [mostOf_self n (by omega) (by omega)] at s1
  have HA1 := Lib.hid (At.new s1 b1)
  clear s1 b1
  by_cases hl : 60 < len
  · go_wp2_with (go_at_call 10; refine (known _).mono ?_; rintro e w2 ⟨rfl, b2⟩; have HB2 := Lib.hid (HA1.out.fresh b2).2.1; clear b2)
    go_ret
    exact ⟨rfl, HB2.out⟩
  · have hl2 : len ≤ 60 := by omega
    clear hl hlen
    have C := opsAny w1 ao len cap xs 4 (HX.out.keep HA1.out.2.1) HY.out (by omega) (by omega) (by omega)
    go_wp2_with fail
    refine C.mono ?_
    clear C
    rintro e w2 ⟨oo, oc, rfl, o2, of2, b2⟩
    have HA2 := Lib.hid (HA1.out.fresh b2)
    have C := runAny HA2.out.1 oo _ oc _ o2 (off_new HA1.out.lt of2) (fun o ho => (opsL_ok 4 xs HY.out (by omega) (by omega) o ho).1) (by have := opsL_len 4 xs; omega)
    clear o2 of2 b2 HA1
    generalize runL n [] (opsL 4 xs) = zs at *
    generalize (opsL 4 xs).length = ol at *
    go_wp2_with fail
    refine C.mono ?_
    clear C
    rintro e w3 ⟨rfl, d3⟩
    obtain ⟨F3, a3, _, _⟩ := HA2.out.next d3
    have HA3 := Lib.hid a3
    clear d3 a3 HA2
    obtain ⟨m, hm⟩ : ∃ m, zs.length = m := ⟨_, rfl⟩
    have hr : (m : Int) ≤ n := by have := HA3.out.1.room; omega
    have C := itemsBeside HA3.out.1 m hm
    go_wp2_with fail
    refine C.mono ?_
    clear C
    rintro e w4 ⟨rfl, s4, b4⟩
    have HM := Lib.hid hm
    have HS := Lib.hid (show TurnRel w q n w3.heap.size m zs false (.int .i64 0) w4 from ⟨0, F3, Nat.zero_le _, rfl, by have := HA3.out.fresh b4; simpa [side, spun_zero, ← hm, spun_all] using this, s4⟩)
    clear s4 b4 HA3 hm
    generalize w3.heap.size = K at *
    go_wp2
    go_loopw [9] (fun i wr => TurnRel w q n K m zs false i wr) (fun i _ => m - (intOf i).toNat)
    case atStart => exact HS.out
    case round =>
      obtain ⟨k, F', hk, rfl, ha, hbe⟩ := hrel
      have HBe := Lib.hid hbe
      clear HS hbe
      by_cases hlt : k < m
      · have i0 : (k : Int) < m := by omega
        obtain ⟨j, hj⟩ : ∃ j, m - k = j + 1 := ⟨m - k - 1, by omega⟩
        have hkl : j < zs.length := by rw [HM.out]; omega
        have HA := Lib.hid (show At w F' q n ((zs.drop (j + 1) ++ zs.take j) ++ [zs.getD j 0]) wr from by have := ha; rwa [show side false k m = m - k from rfl, hj, spun_back zs j hkl] at this)
        have HE := Lib.hid (spun_ahead zs j hkl)
        have HLN := Lib.hid (show (zs.drop (j + 1) ++ zs.take j).length + 1 = m from by simp only [List.length_append, List.length_drop, List.length_take, HM.out]; omega)
        have HT := Lib.hid (show (spun zs j).length = m from by rw [spun_len zs _ (by omega), HM.out])
        have HI := Lib.hid (show side false (k + 1) m = j from by simp only [side]; omega)
        clear hkl ha hj
        generalize zs.getD j 0 = z at *
        generalize zs.drop (j + 1) ++ zs.take j = ys at *
        have C := popROk z HA.out.1
        go_wp2_with fail
        refine C.mono ?_
        clear C
        rintro e w5 ⟨rfl, d5⟩
        obtain ⟨F5, a5, wr5, l5⟩ := HA.out.next d5
        have HA5 := Lib.hid a5
        have HBe5 := Lib.hid (HBe.out.off wr5 l5)
        clear d5 a5 wr5 l5 HA HBe
        have C := pushLOk HA5.out.1 z (by have := HLN.out; omega)
        rw [HE.out] at C
        go_wp2_with fail
        refine C.mono ?_
        clear C
        rintro e w6 ⟨rfl, d6⟩
        obtain ⟨F6, a6, wr6, l6⟩ := HA5.out.next d6
        have H6 := Lib.hid (show TurnRel w q n K m zs false (.int .i64 ((k : Int) + 1)) w6 from ⟨k + 1, F6, by omega, by go_num, by rw [HI.out]; exact a6, HBe5.out.off wr6 l6⟩)
        have C := lenAny a6.1
        rw [HT.out] at C
        clear d6 a6 wr6 l6 HA5 HBe5
        go_wp2_with fail
        refine C.mono ?_
        clear C
        rintro e w' ⟨rfl, rfl⟩
        go_wp2
        go_roundw
        case rel => exact H6.out
        case measure => simp [intOf]; omega
      · obtain rfl : k = m := by omega
        have HA := Lib.hid (show At w F' q n zs wr from by have := ha; rwa [show side false k k = k - k from rfl, Nat.sub_self, spun_zero] at this)
        clear ha
        go_wp2_with fail
        refine (known _).mono ?_
        rintro e w7 ⟨rfl, b7⟩
        have HA7 := Lib.hid (HA.out.fresh b7)
        have HS7 := Lib.hid (HBe.out.keep b7)
        clear b7 HA HBe
        have C := itemsBeside HA7.out.1 k HM.out
        go_wp2_with fail
        refine C.mono ?_
        clear C
        rintro e w8 ⟨rfl, s8, b8⟩
        have C := sameEq w8 _ _ k k k zs s8.1 (HS7.out.keep b8).1 (by omega)
        have HA8 := Lib.hid (HA7.out.fresh b8)
        clear s8 b8 HA7 HS7
        go_wp2_with fail
        refine C.mono ?_
        clear C
        rintro e w9 ⟨rfl, b9⟩
        have HA9 := Lib.hid (HA8.out.fresh b9)
        clear b9 HA8
        go_wp2
        go_ret
        exact ⟨rfl, HA9.out.2.1⟩

theorem turnsWalk {w : World} (most : Int) (ao : Option Addr) (len cap : Nat) (xs : List Int) (left : Bool) (m0 : 0 ≤ most) (m1 : most ≤ 255) (hx : ArgBytes w ao len cap xs) (hlen : len ≤ 140737488351232) :
    Calls Try.prog 8 #[.int .u8 most, .slice ao len cap, .bool left] w fun e w' => e = .returned (.bool true) ∧ Below w.heap.size w w' := by
  cases left
  · exact turnsRight most ao len cap xs m0 m1 hx hlen
  · exact turnsLeft most ao len cap xs m0 m1 hx hlen

end Go.Proofs.Ythjcfeljbmehmaa
