/-
  The walk of StackLast: for every number and list of int32 it answers true and leaves all old memory as it was.
-/
import Derived.Test.YtjelmaabbediiaaArgs4
namespace Go.Proofs.Ytjelmaabbediiaa
open Go.RowKit

/-- What holds at the head of each push. -/
def PushRel (w : World) (n len : Nat) (zs : List Int) (i : Value) (wr : World) : Prop := ∃ k : Nat, k ≤ len ∧ i = .int .i64 k ∧ Stk1 wr w.heap.size w.heap.size n (zs.take (min k n)) ∧ Below w.heap.size w wr
/-- What holds at the head of each pop: k are left. -/
def PopRel (w : World) (n q : Nat) (zs : List Int) (i : Value) (wr : World) : Prop := ∃ k : Nat, k ≤ q ∧ i = .int .i64 ((k : Int) - 1) ∧ Stk1 wr w.heap.size w.heap.size n (zs.take k) ∧ Below w.heap.size w wr

theorem take_more (zs : List Int) (k : Nat) (h : k < zs.length) : zs.take (k + 1) = zs.take k ++ [zs.getD k 0] := by
  rw [List.take_succ_eq_append_getElem h]; simp [List.getD, h]

set_option maxRecDepth 100000 in
set_option maxHeartbeats 8000000 in
theorem lastWalk {w : World} (most : Int) (ao : Option Addr) (len cap : Nat) (zs : List Int) (m0 : 0 ≤ most) (m1 : most ≤ 255) (hz : ArgInt32s w ao len cap zs) (hlen : len ≤ 140737488351232) :
    Calls Try.prog 4 #[.int .u8 most, .slice ao len cap] w fun e w' => e = .returned (.bool true) ∧ Below w.heap.size w w' := by
  obtain ⟨n, hn⟩ : ∃ n : Nat, (n : Int) = most % 40 := ⟨(most % 40).toNat, by omega⟩
  have hn40 : n < 40 := by omega
  have HN := Lib.hid hn
  have HZ := Lib.hid hz.1
  clear hn hz
  by_cases hl : 200 < len
  · go_enter Try.func4, Try.ntmps4
    go_wp2_with (go_at_call 9; refine (known _).mono ?_; rintro e w1 ⟨rfl, b1⟩; have HB1 := Lib.hid b1; clear b1)
    go_ret
    exact ⟨rfl, HB1.out⟩
  · have hl2 : len ≤ 200 := by omega
    clear hl hlen
    go_enter Try.func4, Try.ntmps4
    go_wp2_with fail
    rw [← HN.out]
    clear HN m0 m1
    refine (new1 n w).mono ?_
    rintro e w1 ⟨rfl, s1, b1⟩
    rw [mostOf_self n (by omega) (by omega)] at s1
    have HS := Lib.hid (show PushRel w n len zs (.int .i64 0) w1 from ⟨0, Nat.zero_le _, rfl, by simpa using s1, b1⟩)
    clear s1 b1
    go_wp2
    go_loopw [7] (fun i wr => PushRel w n len zs i wr) (fun i _ => len - (intOf i).toNat)
    case atStart => exact HS.out
    case round =>
      obtain ⟨k, hk, rfl, ha, hb⟩ := hrel
      have HA := Lib.hid ha
      have HB := Lib.hid hb
      clear HS ha hb
      by_cases hlt : k < len
      · obtain ⟨b, off, rfl, bl, hc⟩ := (HZ.out.keep HB.out).2 (by omega)
        have c := hc k hlt
        clear hc
        have hkl : k < zs.length := by rw [HZ.out.1]; exact hlt
        by_cases hkn : k < n
        · have C := push1 HA.out (zs.getD k 0) (by rw [List.length_take]; omega)
          have HT := Lib.hid (show zs.take (min k n) ++ [zs.getD k 0] = zs.take (min (k + 1) n) by rw [Nat.min_eq_left (by omega), Nat.min_eq_left (by omega), take_more zs k hkl])
          clear hkl
          generalize zs.getD k 0 = y at *
          go_wp2_with fail
          refine C.mono ?_
          clear C
          rintro e w3 ⟨rfl, s3, b3⟩
          rw [HT.out] at s3
          have H3 := Lib.hid (show PushRel w n len zs (.int .i64 ((k : Int) + 1)) w3 from ⟨k + 1, by omega, by go_num, s3, HB.out.trans b3⟩)
          clear s3 b3 c
          go_wp2
          go_roundw
          case rel => exact H3.out
          case measure => simp [intOf]; omega
        · have C := pushFull1 HA.out (zs.getD k 0) (by rw [List.length_take]; omega)
          have H3 := Lib.hid (show PushRel w n len zs (.int .i64 ((k : Int) + 1)) wr from ⟨k + 1, by omega, by go_num, by rw [Nat.min_eq_right (by omega)]; have := HA.out; rwa [Nat.min_eq_right (by omega)] at this, HB.out⟩)
          clear hkl
          generalize zs.getD k 0 = y at *
          go_wp2_with fail
          refine C.mono ?_
          clear C
          rintro e w' ⟨rfl, rfl⟩
          clear c
          go_wp2
          go_roundw
          case rel => exact H3.out
          case measure => simp [intOf]; omega
      · obtain rfl : k = len := by omega
        by_cases hkn : k < n -- pops
        · skip
          have HP := Lib.hid (show PopRel w n k zs (.int .i64 ((k : Int) - 1)) wr from ⟨k, Nat.le_refl _, rfl, by have := HA.out; rwa [Nat.min_eq_left (by omega)] at this, HB.out⟩)
          clear HA HB
          go_wp2
          go_loopw [8] (fun i wr => PopRel w n k zs i wr) (fun i _ => (intOf i + 1).toNat)
          case atStart => exact HP.out
          case round =>
            obtain ⟨j, hj, rfl, ha, hb⟩ := hrel
            have HA := Lib.hid ha
            have HB := Lib.hid hb
            clear HP ha hb
            match j, hj, HA with
            | 0, _, HA =>
              rw [show ((0 : Nat) : Int) - 1 = -1 from rfl]
              have C := popNone1 (show Stk1 _ w.heap.size w.heap.size n [] from HA.out)
              have HB0 := HB
              have HL := Lib.hid HA.out
              clear HA HB
              go_wp2_with fail
              refine C.mono ?_
              clear C
              rintro e w' ⟨rfl, rfl⟩
              go_wp2_with fail
              refine (known _).mono ?_
              rintro e w4 ⟨rfl, b4⟩
              have C := len1 (HL.out.fresh b4)
              have HB4 := Lib.hid (HB0.out.trans (b4.mono HB0.out.size))
              clear b4 HL HB0
              go_wp2_with fail
              refine C.mono ?_
              rintro e w' ⟨rfl, rfl⟩
              clear C
              rw [show (List.take 0 zs).length = 0 from rfl]
              go_wp2
              go_ret
              exact ⟨rfl, HB4.out⟩
            | j + 1, hj, HA =>
              rw [show ((j + 1 : Nat) : Int) - 1 = j from by omega]
              have hjl : j < zs.length := by rw [HZ.out.1]; omega
              obtain ⟨b, off, rfl, bl, hc⟩ := HZ.out.2 (by omega)
              have hcj := (HB.out.cell (p := ⟨b, off + j, none⟩) bl).trans (hc j (by omega))
              have C := pop1 (zs := zs.take j) (zs.getD j 0) (by rw [← take_more zs j hjl]; exact HA.out)
              clear hc HA hjl
              generalize zs.getD j 0 = y at *
              go_wp2_with fail
              refine C.mono ?_
              clear C
              rintro e w3 ⟨rfl, s3, b3⟩
              have hc3 := (b3.cell (p := ⟨b, off + j, none⟩) bl).trans hcj
              have H3 := Lib.hid (show PopRel w n k zs (.int .i64 ((j : Int) - 1)) w3 from ⟨j, by omega, rfl, s3, HB.out.trans b3⟩)
              clear s3 b3 hcj
              have i0 : (j : Int) < k := by omega
              go_wp2
              go_roundw
              case rel => exact H3.out
              case measure => simp [intOf]
        · skip
          have HP := Lib.hid (show PopRel w n n zs (.int .i64 ((n : Int) - 1)) wr from ⟨n, Nat.le_refl _, rfl, by have := HA.out; rwa [Nat.min_eq_right (by omega)] at this, HB.out⟩)
          clear HA HB
          go_wp2
          go_loopw [8] (fun i wr => PopRel w n n zs i wr) (fun i _ => (intOf i + 1).toNat)
          case atStart => exact HP.out
          case round =>
            obtain ⟨j, hj, rfl, ha, hb⟩ := hrel
            have HA := Lib.hid ha
            have HB := Lib.hid hb
            clear HP ha hb
            match j, hj, HA with
            | 0, _, HA =>
              rw [show ((0 : Nat) : Int) - 1 = -1 from rfl]
              have C := popNone1 (show Stk1 _ w.heap.size w.heap.size n [] from HA.out)
              have HB0 := HB
              have HL := Lib.hid HA.out
              clear HA HB
              go_wp2_with fail
              refine C.mono ?_
              clear C
              rintro e w' ⟨rfl, rfl⟩
              go_wp2_with fail
              refine (known _).mono ?_
              rintro e w4 ⟨rfl, b4⟩
              have C := len1 (HL.out.fresh b4)
              have HB4 := Lib.hid (HB0.out.trans (b4.mono HB0.out.size))
              clear b4 HL HB0
              go_wp2_with fail
              refine C.mono ?_
              rintro e w' ⟨rfl, rfl⟩
              clear C
              rw [show (List.take 0 zs).length = 0 from rfl]
              go_wp2
              go_ret
              exact ⟨rfl, HB4.out⟩
            | j + 1, hj, HA =>
              rw [show ((j + 1 : Nat) : Int) - 1 = j from by omega]
              have hjl : j < zs.length := by rw [HZ.out.1]; omega
              obtain ⟨b, off, rfl, bl, hc⟩ := HZ.out.2 (by omega)
              have hcj := (HB.out.cell (p := ⟨b, off + j, none⟩) bl).trans (hc j (by omega))
              have C := pop1 (zs := zs.take j) (zs.getD j 0) (by rw [← take_more zs j hjl]; exact HA.out)
              clear hc HA hjl
              generalize zs.getD j 0 = y at *
              go_wp2_with fail
              refine C.mono ?_
              clear C
              rintro e w3 ⟨rfl, s3, b3⟩
              have hc3 := (b3.cell (p := ⟨b, off + j, none⟩) bl).trans hcj
              have H3 := Lib.hid (show PopRel w n n zs (.int .i64 ((j : Int) - 1)) w3 from ⟨j, by omega, rfl, s3, HB.out.trans b3⟩)
              clear s3 b3 hcj
              have i0 : (j : Int) < k := by omega
              go_wp2
              go_roundw
              case rel => exact H3.out
              case measure => simp [intOf]

end Go.Proofs.Ytjelmaabbediiaa
