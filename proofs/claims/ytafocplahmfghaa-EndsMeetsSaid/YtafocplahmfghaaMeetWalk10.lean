/-
  EndsMeets: the walk. Conditions: arguments as they came in.
-/
import Derived.Test.YtafocplahmfghaaMeetPl10
namespace Go.Proofs.Ytafocplahmfghaa
open Go.RowKit

/-- What does not change in the loop. -/
structure MA (W : World) (n : Nat) (ao : Option Addr) (os : List (Int × Int)) (m : Int) (zs : List Int) (gw gc gt : Nat) : Prop where
  ops : OpsAt W ao n os
  pr : Rw W gw .i64 3 (psA m zs os n)
  cd : Rw W gc .u8 5 (dcL m (olds zs.length) (kindsOf os) n)
  tl : RRow W gt (resL m zs os n)
theorem MA.below {W W' : World} {n : Nat} {ao : Option Addr} {os : List (Int × Int)} {m : Int} {zs : List Int} {gw gc gt : Nat} (h : MA W n ao os m zs gw gc gt) (hb : Below W.heap.size W W') : MA W' n ao os m zs gw gc gt :=
  ⟨h.ops.keep hb, h.pr.below hb, h.cd.below hb, h.tl.below hb⟩

set_option maxRecDepth 100000 in
set_option maxHeartbeats 16000000 in
theorem meetWalk {w : World} (a : Int) (aa : Option Addr) (la ca : Nat) (xs : List Int) (ac : Option Addr) (lc cc : Nat) (ys : List Int) (a0 : 0 ≤ a) (a1 : a ≤ 255) (hx : ArgBytes w aa la ca xs) (hla : la ≤ 140737488351232) (hy : ArgBytes w ac lc cc ys) (hlc : lc ≤ 140737488351232) :
    Calls Try.prog 5 #[.int .u8 a, .slice aa la ca, .slice ac lc cc] w fun e w' => e = .returned (.bool true) ∧ Below w.heap.size w w' := by
  have HX := Lib.hid hx
  have HY := Lib.hid hy
  clear hx hy
  by_cases h1 : 150 < (la : Int) + lc
  · go_enter Try.func5, Try.ntmps5
    go_wp2_with fail
    refine (known _).mono ?_
    rintro e w1 ⟨rfl, b1⟩
    have HB := Lib.hid b1
    clear b1
    go_wp2
    go_ret
    exact ⟨rfl, HB.out⟩
  · have C := opsAny w ac lc cc ys 5 HY.out.1 HY.out.2.2.2 (by omega) (by omega) (by omega)
    have HL := Lib.hid (opsL_len 5 ys)
    clear HY
    generalize opsL 5 ys = os at *
    obtain ⟨n, hn⟩ : ∃ n, os.length = n := ⟨_, rfl⟩
    have hn2 : n ≤ 80 := by rw [← hn]; exact HL.out
    have HN := Lib.hid hn
    clear hn HL
    go_enter Try.func5, Try.ntmps5
    go_wp2_with fail
    refine C.mono ?_
    clear C
    rintro e w1 ⟨ao, cap, rfl, o1, _, b1⟩
    rw [HN.out] at o1 ⊢
    obtain ⟨m, hm⟩ : ∃ m, a % 9 = m := ⟨_, rfl⟩
    have hm0 : 0 ≤ m := by omega
    have hm1 : m ≤ 8 := by omega
    have C := filledAny w1 m aa la ca xs (HX.out.1.keep b1) HX.out.2.2.2 (by omega)
    rw [mostOf_self m hm0 (by omega)] at C
    have HB1 := Lib.hid b1
    have HO1 := Lib.hid o1
    have HM := Lib.hid hm
    clear b1 o1 hm
    go_upto_region 5 with (fail)
    rw [HM.out]
    clear HM a0 a1
    go_wp2_with fail
    refine C.mono ?_
    clear C
    rintro e w2 ⟨p, F, rfl, A2⟩
    generalize fillL m xs la = zs at *
    have hzl : (zs.length : Int) ≤ m := A2.1.room
    have C := lenAny A2.1
    have C2 := pairsAny w2 zs.length m ao n cap os (HO1.out.keep A2.2.1) (by omega)
    rw [mostOf_self m hm0 (by omega), show haveOf zs.length m = (zs.length : Int) by unfold haveOf; rw [if_neg (by omega), if_neg (by omega)]] at C2
    have HA3 := Lib.hid A2
    have HO3 := Lib.hid (HO1.out.keep A2.2.1)
    clear A2
    go_wp2_with fail
    refine C.mono ?_
    clear C
    rintro e w3 ⟨rfl, rfl⟩
    go_wp2_with fail
    refine C2.mono ?_
    clear C2
    rintro e w4 ⟨gw, gc, rfl, r4, q4, g4, k4, _, b4⟩
    have A4 := HA3.out.fresh b4
    have o4 := HO3.out.keep b4
    have C := applyAny (w := w4) (F := F) (sp := some p) A4.1 A4.lt ao n cap os o4 (fun hp x hx hg => by
      obtain ⟨b, off, e, hb, _⟩ := HO1.out.2 hp
      rw [e] at hx
      injection hx with hx
      subst hx
      exact absurd (HA3.out.2.2 _ hg) (show ¬ w1.heap.size ≤ b by omega)) (by omega)
    simp only [ptrO, Option.map_some] at C
    have H4 := Lib.hid (And.intro A4 (And.intro o4 (And.intro r4 q4)))
    have HG := Lib.hid (And.intro (fun e => by have := HA3.out.lt _ e; omega : ¬ F gw) (fun e => by have := HA3.out.lt _ e; omega : ¬ F gc))
    clear A4 o4 r4 q4 b4 g4 k4 HA3 HO3
    go_wp2_with fail
    refine C.mono ?_
    clear C
    rintro e w5 ⟨gt, F', rfl, r5, _, wr5, _, g5, _, _⟩
    have HMA := Lib.hid (show MA w5 n ao os m zs gw gc gt from by
      obtain ⟨A4, o4, r4, q4⟩ := H4.out
      refine ⟨?_, r4.keep (wr5.block _ r4.lt HG.out.1), q4.keep (wr5.block _ q4.lt HG.out.2), r5⟩
      refine ⟨o4.1, fun hp => ?_⟩
      obtain ⟨b, off, e, hl, hc⟩ := o4.2 hp
      obtain ⟨b', off', e', hb', _⟩ := HO1.out.2 hp
      have hbb : b < w1.heap.size := by
        rw [e] at e'
        injection e' with e'
        injection e' with e1 e2
        omega
      have hnF : ¬ F b := fun hg => by have := A4.2.2 b hg; omega
      exact ⟨b, off, e, Nat.lt_of_lt_of_le hl wr5.size, fun i hi => ⟨(wr5.cell (p := ⟨b, _, none⟩) hl hnF).trans (hc i hi).1, (wr5.cell (p := ⟨b, _, none⟩) hl hnF).trans (hc i hi).2⟩⟩)
    have HB5 := Lib.hid (show Below w.heap.size w w5 from by
      obtain ⟨A4, _⟩ := H4.out
      have hb := HB1.out.trans (A4.2.1.mono HB1.out.size)
      exact hb.trans (wr5.below hb.size (fun g hg => Nat.le_trans HB1.out.size (A4.2.2 g hg))))
    clear r5 wr5 g5 H4 HG HB1 HO1
    obtain ⟨i0, hi, hz0, hz1, hz2⟩ := info_parts infoBool
    go_wp2_with (at_make; refine wpList_make_full _ rfl _ _ 38 rfl w5.heap.size 4 i0 _ 1 Try.underlying38 hi hz0 hz1 .i64 .i64 _ _ n rfl rfl rfl rfl (by rw [hz2]; omega) (by simp only [maxLen]; omega) (Nat.le_refl _) ?_; intro w6 hown6 hgrow6; have HM6 := Lib.hid (madeBools hown6 hgrow6); clear hown6 hgrow6)
    obtain ⟨gm, hgm⟩ : ∃ gm, w5.heap.size = gm := ⟨_, rfl⟩
    rw [hgm]
    have HS := Lib.hid (show Below gm w5 w6 ∧ BRw w6 gm (metRow (psA m zs os n) n 0) from by rw [← hgm, metRow_none]; exact ⟨HM6.out.2, HM6.out.1⟩)
    have HGM := Lib.hid hgm
    have HZ0 := Lib.hid (oldA_zero (most := m) (zs := zs) (os := os))
    clear HM6 hgm hi hz0 hz1 hz2
    go_loopw [15, 16] (fun be i wr => ∃ k : Nat, k ≤ n ∧ i = .int .i64 k ∧ be = .int .i64 (oldA m zs os k) ∧ Hid (Below gm w5 wr ∧ BRw wr gm (metRow (psA m zs os n) n k))) (fun _ i _ => n - (intOf i).toNat)
    case atStart => exact ⟨0, Nat.zero_le _, rfl, by rw [HZ0.out], HS⟩
    case round =>
      obtain ⟨k, hk, rfl, rfl, HR⟩ := hrel
      clear HS
      have ho0 := oldA_low (most := m) (zs := zs) (os := os) (k := k)
      have ho1 := oldA_high (os := os) (k := k) hzl
      by_cases hlt : k < n
      · have ma := HMA.out.below (by rw [HGM.out]; exact HR.out.1)
        have c1 := ma.pr.cell (i := k) (by rw [psA_length]; exact hlt)
        have c2 := ma.cd.cell (i := k) (by rw [dcL_length]; exact hlt)
        obtain ⟨c3, c4⟩ := ma.tl.cells (i := k) (by rw [resL_length]; exact hlt)
        rw [psA_getD hlt] at c1
        rw [dcL_getD hlt, code_same] at c2
        rw [resL_getD hlt] at c3 c4
        simp only at c3 c4
        have i1 : (k : Int) < (n : Int) := by omega
        have hnx := oldA_next (most := m) (zs := zs) (os := os) (k := k)
        have hn0 := oldA_low (most := m) (zs := zs) (os := os) (k := k + 1)
        have hpt := ptA_in (os := os) hzl k
        by_cases hp : ptA m zs os k = -1
        · have HRN := Lib.hid (show metRow (psA m zs os n) n (k + 1) = metRow (psA m zs os n) n k from metRow_old (by rw [psA_length]; exact hlt) (by rw [psA_getD hlt]; exact hp))
          rw [hp] at c1
          by_cases hc2 : cdA m zs os k = 2
          · rw [if_pos ⟨hp, hc2⟩] at hnx
            rw [hc2] at c2 c3
            have HNX := Lib.hid hnx
            have e1 : IntKind.i64.wrap (oldA m zs os k - 1) = oldA m zs os k - 1 := by rw [IntKind.wrap_i64]; omega
            clear ma hpt hp hc2 hnx hn0
            generalize oldA m zs os k = q at *
            generalize vlA m zs os k = v at *
            go_wp2
            go_quiet (fail)
            go_wp2
            go_roundw
            case rel => exact ⟨k + 1, by omega, by go_num, by rw [HNX.out], Lib.hid (by
              rw [HRN.out]
              exact ⟨below_drewN HR.out.1 _, HR.out.2⟩)⟩
            case measure => simp [intOf]; omega
          · rw [if_neg (fun h => hc2 h.2)] at hnx
            have HNX := Lib.hid hnx
            have hc3 : (cdA m zs os k == 2) = false := by simpa using hc2
            clear ma hpt hp hc2 hnx hn0
            generalize cdA m zs os k = cd at *
            generalize oldA m zs os k = q at *
            generalize vlA m zs os k = v at *
            go_wp2
            go_quiet (fail)
            go_wp2
            go_roundw
            case rel => exact ⟨k + 1, by omega, by go_num, by rw [HNX.out]; simp, Lib.hid (by
              rw [HRN.out]
              exact ⟨below_drewN HR.out.1 _, HR.out.2⟩)⟩
            case measure => simp [intOf]; omega
        · obtain ⟨j, hj⟩ : ∃ j : Nat, ptA m zs os k = j := ⟨(ptA m zs os k).toNat, by omega⟩
          rw [if_neg (fun h => hp h.1)] at hnx
          have HNX := Lib.hid hnx
          obtain ⟨hk2, hj1, hjc⟩ := meets hj
          have hnew := met_new (n := n) hj hk
          have hval := (stepMeet (n := n) hzl hlt hp).2
          have HRN := Lib.hid (metRow_put (n := n) (by rw [psA_length]; exact hlt) (show (psA m zs os n).getD k 0 = (j : Int) by rw [psA_getD hlt]; exact hj))
          rw [hj] at hval c1 hpt
          rw [hval] at c4
          obtain ⟨b, off, rfl, bl, hc⟩ := ma.ops.2 (by omega)
          have d0 := (hc k hlt).1
          have d1 := (hc j (by omega)).1
          have d2 := (hc j (by omega)).2
          change wr.cell? ⟨b, off + k * 2, none⟩ = some (.int .u8 (kindsOf os k)) at d0
          change wr.cell? ⟨b, off + j * 2, none⟩ = some (.int .u8 (kindsOf os j)) at d1
          rw [show (os.getD j (0, 0)).2 = valOf os j by simp [valOf]] at d2
          have d3 := ma.cd.cell (i := j) (by rw [dcL_length]; omega)
          rw [dcL_getD (by omega), code_same, hjc] at d3
          have d4 := HR.out.2.cell (i := j) (by rw [metRow_length]; omega)
          rw [hnew] at d4
          have f4 := HR.out.2.free j
          have HRS := Lib.hid (HR.out.2.set j true)
          have q1 : (j : Int) < (k : Int) := by omega
          have q2 : (j : Int) < (n : Int) := by omega
          have q0 : (0 : Int) ≤ (j : Int) := by omega
          clear hc bl ma hval hnew hj hjc hp hpt hnx hn0
          generalize cdA m zs os k = cd0 at *
          generalize valOf os j = vq at *
          generalize oldA m zs os k = q at *
          generalize kindsOf os k = kk at *
          generalize kindsOf os j = kj at *
          have e1 : decide (kk < 3) = false := decide_eq_false (by omega)
          have e2 : decide (2 < kj) = false := decide_eq_false (by omega)
          have e3 : decide (k ≤ j) = false := decide_eq_false (by omega)
          clear hk2 hj1
          go_wp2
          go_quiet (fail)
          go_wp2
          go_quiet (fail)
          go_wp2
          go_roundw
          case rel => exact ⟨k + 1, by omega, by go_num, by rw [HNX.out]; simp, Lib.hid (by
            rw [← HRN.out]
            exact ⟨(below_drewN HR.out.1 _).setCell (p := ⟨gm, j, none⟩) (Nat.le_refl gm) (.bool true), HRS.out⟩)⟩
          case measure => simp [intOf]; omega
      · obtain rfl : n = k := by omega
        clear hlt
        have hb := HR.out.1
        rw [← HGM.out] at hb
        have HBk := Lib.hid hb
        clear hb
        generalize oldA m zs os n = q at *
        go_wp2_with fail
        refine (known _).mono ?_
        rintro e w7 ⟨rfl, b7⟩
        have HB7 := Lib.hid (HB5.out.trans ((HBk.out.trans (b7.mono HBk.out.size)).mono HB5.out.size))
        clear b7 HBk HR HMA
        go_wp2
        go_ret
        exact ⟨rfl, HB7.out⟩

end Go.Proofs.Ytafocplahmfghaa
