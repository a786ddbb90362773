/-
  The walk of RingQueue: for all numbers and lists of int32 it answers true and leaves all old memory as it was.
-/
import Derived.Test.YthjcfeljbmehmaaRngRun
namespace Go.Proofs.Ythjcfeljbmehmaa
open Go.RowKit

/-- What holds at the head of each round: k items came, the first t of them were taken. -/
def QueueRel (w : World) (q n len : Nat) (zs : List Int) (at_ i : Value) (wr : World) : Prop :=
  ∃ (k t : Nat), k ≤ len ∧ t ≤ k ∧ k - t ≤ n ∧ i = .int .i64 k ∧ at_ = .int .i64 t ∧ Rng1 wr w.heap.size q n ((zs.take k).drop t) ∧ Below w.heap.size w wr

theorem queue_len {zs : List Int} {len k t : Nat} (hz : zs.length = len) (hk : k ≤ len) : ((zs.take k).drop t).length = k - t := by simp; omega
theorem queue_front {zs : List Int} {len k t : Nat} (hz : zs.length = len) (hk : k ≤ len) (h : t < k) : (zs.take k).drop t = zs.getD t 0 :: (zs.take k).drop (t + 1) := by
  rw [List.drop_eq_getElem_cons (by simp; omega)]; simp [List.getD, show t < zs.length by omega]
theorem queue_back {zs : List Int} {len k t : Nat} (hz : zs.length = len) (hk : k < len) (h : t ≤ k) : (zs.take k).drop t ++ [zs.getD k 0] = (zs.take (k + 1)).drop t := by
  rw [List.take_succ_eq_append_getElem (by omega), List.drop_append_of_le_length (by simp; omega)]; simp [List.getD, show k < zs.length by omega]

/-- What is behind the first t of a list. -/
theorem reads_cut {w : World} {ao : Option Addr} {len cap t : Nat} {zs : List Int} (h : Reads .i32 w ao len zs) (ht : t ≤ len) (hc : len ≤ cap) : Reads .i32 w (if cap = t then ao else ao.map (·.add t)) (len - t) (zs.drop t) := by
  refine ⟨by rw [List.length_drop, h.1], fun hp => ?_⟩
  obtain ⟨b, off, rfl, bl, hcs⟩ := h.2 (by omega)
  rw [if_neg (by omega)]
  refine ⟨b, off + t, by simp [Addr.add], bl, fun i hi => ?_⟩
  rw [Nat.add_assoc, hcs (t + i) (by omega)]
  simp [List.getD, List.getElem?_drop]

theorem reads_none (w : World) (A : Option Addr) : Reads .i32 w A 0 [] := ⟨rfl, fun h => absurd h (Nat.lt_irrefl _)⟩
theorem items1N {w : World} {B p : Nat} {most : Int} {zs : List Int} (h : Rng1 w B p most zs) (n : Nat) (hn : zs.length = n) :
    Calls Try.prog 16 #[.pointer (some ⟨p, 0, none⟩)] w fun e w' => e = .returned (.slice (some ⟨w.heap.size, 0, none⟩) n n) ∧ Reads .i32 w' (some ⟨w.heap.size, 0, none⟩) n zs ∧ Below w.heap.size w w' := by
  obtain ⟨F, s, _⟩ := h
  exact (itemsBeside s n hn).mono fun _ _ ⟨a, b, c⟩ => ⟨a, b.1, c⟩

set_option maxRecDepth 100000 in
set_option maxHeartbeats 8000000 in
theorem queueWalk {w : World} (most : Int) (ao : Option Addr) (len cap : Nat) (zs : List Int) (step : Int) (m0 : 0 ≤ most) (m1 : most ≤ 255) (hz : ArgInt32s w ao len cap zs) (hlen : len ≤ 140737488351232) (p0 : 0 ≤ step) (p1 : step ≤ 255) :
    Calls Try.prog 5 #[.int .u8 most, .slice ao len cap, .int .u8 step] w fun e w' => e = .returned (.bool true) ∧ Below w.heap.size w w' := by
  obtain ⟨n, hn⟩ : ∃ n : Nat, (n : Int) = 1 + most % 9 := ⟨(1 + most % 9).toNat, by omega⟩
  have hn9 : n < 10 := by omega
  have hn0 : 0 < n := by omega
  have HN := Lib.hid hn
  have HZ := Lib.hid hz.1
  have hcap := hz.2.1
  clear hn hz
  go_enter Try.func5, Try.ntmps5
  go_wp2_with fail
  rw [← HN.out]
  clear HN m0 m1
  refine (new1 n w).mono ?_
  rintro e w1 ⟨q, rfl, s1, b1⟩
  rw [mostOf_self n (by omega) (by omega)] at s1
  by_cases hl : 200 < len
  · have HB1 := Lib.hid b1
    clear b1
    go_wp2_with (go_at_call 10; refine (known _).mono ?_; rintro e w2 ⟨rfl, b2⟩; have HB2 := Lib.hid (HB1.out.trans (b2.mono HB1.out.size)); clear b2)
    go_ret
    exact ⟨rfl, HB2.out⟩
  · have hl2 : len ≤ 200 := by omega
    clear hl hlen
    have HS := Lib.hid (show QueueRel w q n len zs (.int .i64 0) (.int .i64 0) w1 from ⟨0, 0, Nat.zero_le _, Nat.zero_le _, by omega, rfl, rfl, by simpa using s1, b1⟩)
    clear s1 b1
    go_wp2
    go_loopw [9, 10] (fun t i wr => QueueRel w q n len zs t i wr) (fun _ i _ => len - (intOf i).toNat)
    case atStart => exact HS.out
    case round =>
      obtain ⟨k, t, hk, htk, hd, rfl, rfl, ha, hb⟩ := hrel
      have HA := Lib.hid ha
      have HB := Lib.hid hb
      have HZL := Lib.hid HZ.out.1
      clear HS ha hb
      by_cases hlt : k < len
      · obtain ⟨b, off, rfl, bl, hc⟩ := (HZ.out.keep HB.out).2 (by omega)
        have HC := Lib.hid hc
        have hbl : b < w.heap.size := by have := HZ.out.2 (by omega); obtain ⟨b', o', e, h, _⟩ := this; simp at e; obtain ⟨rfl, rfl⟩ := e; exact h
        have i0 : (k : Int) < len := by omega
        have CL := len1 HA.out
        rw [queue_len HZL.out hk] at CL
        by_cases hn1 : k - t = n
        · rw [hn1] at CL
          have htk2 : t < k := by omega
          have P := popL1 (zs.getD t 0) (by have := HA.out; rwa [queue_front HZL.out hk htk2] at this)
          have HCT := Lib.hid (hc t (by omega))
          clear hc
          have it : (t : Int) < len := by omega
          go_wp2_with fail
          refine CL.mono ?_
          rintro e w' ⟨rfl, rfl⟩
          clear CL
          generalize zs.getD t 0 = z at *
          go_wp2_with fail
          refine P.mono ?_
          clear P
          rintro e w3 ⟨rfl, s3, b3⟩
          have HB3 := Lib.hid (HB.out.trans b3)
          have ct := (b3.cell (p := ⟨b, off + t, none⟩) hbl).trans HCT.out
          have ck := (b3.cell (p := ⟨b, off + k, none⟩) hbl).trans (HC.out k hlt)
          have HA3 := Lib.hid s3
          clear s3 b3

          have C := pushR1 HA3.out (zs.getD k 0) (by rw [queue_len HZL.out hk]; omega)
          rw [queue_back HZL.out hlt (by omega)] at C
          generalize zs.getD k 0 = y at *
          go_wp2_with fail
          refine C.mono ?_
          clear C
          rintro e w4 ⟨rfl, s4, b4⟩
          have H4 := Lib.hid (show QueueRel w q n len zs (.int .i64 ((t : Int) + 1)) (.int .i64 ((k : Int) + 1)) w4 from ⟨k + 1, t + 1, by omega, by omega, by omega, by go_num, by go_num, s4, HB3.out.trans b4⟩)
          clear s4 b4
          go_wp2
          go_roundw
          case rel => exact H4.out
          case measure => simp [intOf]; omega

        · obtain ⟨d, hdd⟩ : ∃ d, k - t = d := ⟨_, rfl⟩
          rw [hdd] at CL
          have f0 : ¬ d = n := by omega
          have f1 : ((d : Int) == (n : Int)) = false := by simp; omega
          have f2 : (d == n) = false := by simp; omega
          by_cases hs : step % 7 = (k : Int) % 7
          · have s1 : (step % 7 == (k : Int) % 7) = true := by simpa using hs
            clear hs
            by_cases hd0 : 0 < d
            · have i1 : (0 : Int) < d := by omega
              have htk2 : t < k := by omega
              have P := popL1 (zs.getD t 0) (by have := HA.out; rwa [queue_front HZL.out hk htk2] at this)
              have HCT := Lib.hid (hc t (by omega))
              clear hc
              have it : (t : Int) < len := by omega
              go_wp2_with fail
              refine CL.mono ?_
              rintro e w' ⟨rfl, rfl⟩
              go_wp2_with fail
              refine CL.mono ?_
              rintro e w' ⟨rfl, rfl⟩
              clear CL
              generalize zs.getD t 0 = z at *
              go_wp2_with fail
              refine P.mono ?_
              clear P
              rintro e w3 ⟨rfl, s3, b3⟩
              have HB3 := Lib.hid (HB.out.trans b3)
              have ct := (b3.cell (p := ⟨b, off + t, none⟩) hbl).trans HCT.out
              have ck := (b3.cell (p := ⟨b, off + k, none⟩) hbl).trans (HC.out k hlt)
              have HA3 := Lib.hid s3
              clear s3 b3

              have C := pushR1 HA3.out (zs.getD k 0) (by rw [queue_len HZL.out hk]; omega)
              rw [queue_back HZL.out hlt (by omega)] at C
              generalize zs.getD k 0 = y at *
              go_wp2_with fail
              refine C.mono ?_
              clear C
              rintro e w4 ⟨rfl, s4, b4⟩
              have H4 := Lib.hid (show QueueRel w q n len zs (.int .i64 ((t : Int) + 1)) (.int .i64 ((k : Int) + 1)) w4 from ⟨k + 1, t + 1, by omega, by omega, by omega, by go_num, by go_num, s4, HB3.out.trans b4⟩)
              clear s4 b4
              go_wp2
              go_roundw
              case rel => exact H4.out
              case measure => simp [intOf]; omega

            · have i1 : ¬ (0 : Int) < d := by omega
              have ck := hc k hlt
              clear hc
              go_wp2_with fail
              refine CL.mono ?_
              rintro e w' ⟨rfl, rfl⟩
              go_wp2_with fail
              refine CL.mono ?_
              rintro e w' ⟨rfl, rfl⟩
              clear CL

              have C := pushR1 HA.out (zs.getD k 0) (by rw [queue_len HZL.out hk]; omega)
              rw [queue_back HZL.out hlt htk] at C
              generalize zs.getD k 0 = y at *
              go_wp2_with fail
              refine C.mono ?_
              clear C
              rintro e w4 ⟨rfl, s4, b4⟩
              have H4 := Lib.hid (show QueueRel w q n len zs (.int .i64 (t : Int)) (.int .i64 ((k : Int) + 1)) w4 from ⟨k + 1, t, by omega, by omega, by omega, by go_num, rfl, s4, HB.out.trans b4⟩)
              clear s4 b4
              go_wp2
              go_roundw
              case rel => exact H4.out
              case measure => simp [intOf]; omega

          · have s1 : (step % 7 == (k : Int) % 7) = false := by simpa using hs
            clear hs
            have ck := hc k hlt
            clear hc
            go_wp2_with fail
            refine CL.mono ?_
            rintro e w' ⟨rfl, rfl⟩
            clear CL

            have C := pushR1 HA.out (zs.getD k 0) (by rw [queue_len HZL.out hk]; omega)
            rw [queue_back HZL.out hlt htk] at C
            generalize zs.getD k 0 = y at *
            go_wp2_with fail
            refine C.mono ?_
            clear C
            rintro e w4 ⟨rfl, s4, b4⟩
            have H4 := Lib.hid (show QueueRel w q n len zs (.int .i64 (t : Int)) (.int .i64 ((k : Int) + 1)) w4 from ⟨k + 1, t, by omega, by omega, by omega, by go_num, rfl, s4, HB.out.trans b4⟩)
            clear s4 b4
            go_wp2
            go_roundw
            case rel => exact H4.out
            case measure => simp [intOf]; omega
      · obtain rfl : k = len := by omega
        have HL := Lib.hid (show Rng1 wr w.heap.size q n (zs.drop t) from by have := HA.out; rwa [List.take_of_length_le (by rw [HZL.out]; exact Nat.le_refl _)] at this)
        have HD := Lib.hid (show (zs.drop t).length = k - t from by rw [List.length_drop, HZL.out])
        have i0 : (t : Int) ≤ cap := by omega
        have i1 : (t : Int) ≤ k := by omega
        have i2 : t ≤ cap := by omega
        by_cases hct : cap = t
        · obtain rfl : t = k := by omega
          have HL2 := Lib.hid (show Rng1 wr w.heap.size q n [] from by have := HL.out; rwa [List.drop_of_length_le (by rw [HZL.out]; exact Nat.le_refl _)] at this)
          subst hct
          clear HD htk hk hcap i0 i1 i2 hlt hd
          have HBd := Lib.hid (show Below w.heap.size w wr.drew from below_drewN HB.out 1)
          have HLd := Lib.hid (HL2.out.fresh (below_drewN (Below.refl _ wr) 1))
          clear HA HL HL2
          go_wp2
          go_region_held3 (fun _ => True) (exact trivial) (first
            | (go_at_call 10; refine (known _).mono ?_; rintro e w4 ⟨rfl, b4⟩; have HB4 := Lib.hid (HBd.out.trans (b4.mono HBd.out.size)); have CI := items1N (zs := []) (HLd.out.fresh b4) 0 rfl; clear b4)
            | (go_at_call 16; refine CI.mono ?_; rintro e w5 ⟨rfl, r5, b5⟩; have HB5 := Lib.hid (HB4.out.trans (b5.mono HB4.out.size)); have CS := sameEq w5 _ _ 0 0 0 [] r5 (reads_none w5 ao) (by omega); clear r5 b5)
            | (go_at_call 20; refine CS.mono ?_; rintro e w6 ⟨rfl, b6⟩; have HB6 := Lib.hid (HB5.out.trans (b6.mono HB5.out.size)); clear b6))
          all_goals
            go_wp2
            go_ret
            exact ⟨rfl, HB6.out⟩
        · have HRC := Lib.hid (fun (W : World) (hb : Below w.heap.size w W) => by have := reads_cut (HZ.out.keep hb) htk hcap; rwa [if_neg hct] at this)
          have HBd := Lib.hid (show Below w.heap.size w wr.drew from below_drewN HB.out 1)
          have HLd := Lib.hid (HL.out.fresh (below_drewN (Below.refl _ wr) 1))
          clear HA HL
          go_wp2
          go_region_held3 (fun _ => True) (exact trivial) (first
            | (go_at_call 10; refine (known _).mono ?_; rintro e w4 ⟨rfl, b4⟩; have HB4 := Lib.hid (HBd.out.trans (b4.mono HBd.out.size)); have CI := items1N (HLd.out.fresh b4) (k - t) HD.out; clear b4)
            | (go_at_call 16; refine CI.mono ?_; rintro e w5 ⟨rfl, r5, b5⟩; have HB5 := Lib.hid (HB4.out.trans (b5.mono HB4.out.size)); have CS := sameEq w5 _ _ (k - t) (k - t) (cap - t) (zs.drop t) r5 (HRC.out w5 HB5.out) (by omega); clear r5 b5)
            | (go_at_call 20; refine CS.mono ?_; rintro e w6 ⟨rfl, b6⟩; have HB6 := Lib.hid (HB5.out.trans (b6.mono HB5.out.size)); clear b6))
          all_goals
            go_wp2
            go_ret
            exact ⟨rfl, HB6.out⟩

end Go.Proofs.Ythjcfeljbmehmaa
