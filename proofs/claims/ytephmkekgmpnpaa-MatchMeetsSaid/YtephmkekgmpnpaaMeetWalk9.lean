/-
  MatchMeets: the walk. Conditions: arguments as they came in.
-/
import Derived.Test.YtephmkekgmpnpaaMeetPl9
import Derived.Test.YtephmkekgmpnpaaFill9
namespace Go.Proofs.Ytephmkekgmpnpaa
open Go.RowKit

/-- What does not change in the loop. -/
structure MA (W : World) (n : Nat) (ao : Option Addr) (os : List (Int × Int)) (m : Int) (zs : List Int) (gs gw gc gt : Nat) : Prop where
  ops : OpsAt W ao n os
  was : Reads .i32 W (some ⟨gs, 0, none⟩) zs.length zs
  pr : Rw W gw .i64 3 (pairsL m zs.length (kindsOf os) n)
  cd : Rw W gc .u8 5 (codesL m zs.length (kindsOf os) n)
  tl : RRow W gt (resL m zs os n)
theorem MA.below {W W' : World} {n : Nat} {ao : Option Addr} {os : List (Int × Int)} {m : Int} {zs : List Int} {gs gw gc gt : Nat} (h : MA W n ao os m zs gs gw gc gt) (hb : Below W.heap.size W W') : MA W' n ao os m zs gs gw gc gt :=
  ⟨h.ops.keep hb, h.was.keep hb, h.pr.below hb, h.cd.below hb, h.tl.below hb⟩

set_option maxRecDepth 100000 in
set_option maxHeartbeats 16000000 in
theorem meetWalk {w : World} (a : Int) (aa : Option Addr) (la ca : Nat) (xs : List Int) (ac : Option Addr) (lc cc : Nat) (ys : List Int) (a0 : 0 ≤ a) (a1 : a ≤ 255) (hx : ArgBytes w aa la ca xs) (hla : la ≤ 140737488351232) (hy : ArgBytes w ac lc cc ys) (hlc : lc ≤ 140737488351232) :
    Calls Try.prog 5 #[.int .u8 a, .slice aa la ca, .slice ac lc cc] w fun e w' => e = .returned (.bool true) ∧ Below w.heap.size w w' := by
  have HX := Lib.hid hx
  have HY := Lib.hid hy
  clear hx hy
  by_cases h1 : 150 < (la : Int) + lc
  · go_enter Try.func5, Try.ntmps5
    go_wp2_with fail
    refine (known _).mono ?_
    rintro e w1 ⟨rfl, b1⟩
    have HB := Lib.hid b1
    clear b1
    go_wp2
    go_ret
    exact ⟨rfl, HB.out⟩
  · have C := opsAny w ac lc cc ys 3 HY.out.1 HY.out.2.2.2 (by omega) (by omega) (by omega)
    have HL := Lib.hid (opsL_len 3 ys)
    clear HY
    generalize opsL 3 ys = os at *
    obtain ⟨n, hn⟩ : ∃ n, os.length = n := ⟨_, rfl⟩
    have hn2 : n ≤ 80 := by rw [← hn]; exact HL.out
    have HN := Lib.hid hn
    clear hn HL
    go_enter Try.func5, Try.ntmps5
    go_wp2_with fail
    refine C.mono ?_
    clear C
    rintro e w1 ⟨ao, cap, rfl, o1, _, b1⟩
    rw [HN.out] at o1 ⊢
    obtain ⟨m, hm⟩ : ∃ m, a % 9 = m := ⟨_, rfl⟩
    have hm0 : 0 ≤ m := by omega
    have hm1 : m ≤ 8 := by omega
    have C := filledAny w1 m aa la ca xs (HX.out.1.keep b1) HX.out.2.2.2 (by omega)
    rw [mostOf_self m hm0 (by omega)] at C
    have HB1 := Lib.hid b1
    have HO1 := Lib.hid o1
    have HM := Lib.hid hm
    clear b1 o1 hm
    go_upto_region 5 with (fail)
    rw [HM.out]
    clear HM a0 a1
    go_wp2_with fail
    refine C.mono ?_
    clear C
    rintro e w2 ⟨p, F, rfl, A2⟩
    generalize fillL m xs la = zs at *
    have hzl : (zs.length : Int) ≤ m := A2.1.room
    have C := itemsBeside A2.1 zs.length rfl
    have HA2 := Lib.hid A2
    have HO2 := Lib.hid (HO1.out.keep A2.2.1)
    clear A2
    go_wp2_with fail
    refine C.mono ?_
    clear C
    rintro e w3 ⟨rfl, i3, b3⟩
    have A3 := HA2.out.fresh b3
    have C := pairsAny w3 zs.length m ao n cap os (HO2.out.keep b3) (by omega)
    rw [mostOf_self m hm0 (by omega), show haveOf zs.length m = (zs.length : Int) by unfold haveOf; rw [if_neg (by omega), if_neg (by omega)]] at C
    have HA3 := Lib.hid A3
    have HI3 := Lib.hid i3
    have HO3 := Lib.hid (HO2.out.keep b3)
    clear A3 i3 b3 HO2 HA2
    go_wp2_with fail
    refine C.mono ?_
    clear C
    rintro e w4 ⟨gw, gc, rfl, r4, q4, g4, k4, _, b4⟩
    have A4 := HA3.out.fresh b4
    have o4 := HO3.out.keep b4
    have C := applyAny (w := w4) (F := F) (sp := some p) A4.1 A4.lt ao n cap os o4 (fun hp x hx hg => by
      obtain ⟨b, off, e, hb, _⟩ := HO1.out.2 hp
      rw [e] at hx
      injection hx with hx
      subst hx
      exact absurd (HA3.out.2.2 _ hg) (show ¬ w1.heap.size ≤ b by omega)) (by omega)
    simp only [ptrO, Option.map_some] at C
    have H4 := Lib.hid (And.intro A4 (And.intro o4 (And.intro r4 (And.intro q4 (HI3.out.keep b4)))))
    have HG := Lib.hid (And.intro (fun e => by have := HA3.out.lt _ e; omega : ¬ F gw) (fun e => by have := HA3.out.lt _ e; omega : ¬ F gc))
    clear A4 o4 r4 q4 b4 g4 k4 HA3 HI3 HO3
    go_wp2_with fail
    refine C.mono ?_
    clear C
    rintro e w5 ⟨gt, F', rfl, r5, _, wr5, _, g5, _⟩
    obtain ⟨gs, hgs⟩ : ∃ gs, w2.heap.size = gs := ⟨_, rfl⟩
    have HMA := Lib.hid (show MA w5 n ao os m zs w2.heap.size gw gc gt from by
      obtain ⟨A4, o4, r4, q4, i4⟩ := H4.out
      refine ⟨?_, i4.1.off i4.2.1 wr5, r4.keep (wr5.block _ r4.lt HG.out.1), q4.keep (wr5.block _ q4.lt HG.out.2), r5⟩
      refine ⟨o4.1, fun hp => ?_⟩
      obtain ⟨b, off, e, hl, hc⟩ := o4.2 hp
      obtain ⟨b', off', e', hb', _⟩ := HO1.out.2 hp
      have hbb : b < w1.heap.size := by
        rw [e] at e'
        injection e' with e'
        injection e' with e1 e2
        omega
      have hnF : ¬ F b := fun hg => by have := A4.2.2 b hg; omega
      exact ⟨b, off, e, Nat.lt_of_lt_of_le hl wr5.size, fun i hi => ⟨(wr5.cell (p := ⟨b, _, none⟩) hl hnF).trans (hc i hi).1, (wr5.cell (p := ⟨b, _, none⟩) hl hnF).trans (hc i hi).2⟩⟩)
    have HB5 := Lib.hid (show Below w.heap.size w w5 from by
      obtain ⟨A4, _⟩ := H4.out
      have hb := HB1.out.trans (A4.2.1.mono HB1.out.size)
      exact hb.trans (wr5.below hb.size (fun g hg => Nat.le_trans HB1.out.size (A4.2.2 g hg))))
    clear r5 wr5 g5 H4 HG HB1 HO1 hgs
    generalize w2.heap.size = gs at *
    obtain ⟨i0, hi, hz0, hz1, hz2⟩ := info_parts infoBool
    go_wp2_with (at_make; refine wpList_make_full _ rfl _ _ 39 rfl w5.heap.size 4 i0 _ 1 Try.underlying39 hi hz0 hz1 .i64 .i64 _ _ n rfl rfl rfl rfl (by rw [hz2]; omega) (by simp only [maxLen]; omega) (Nat.le_refl _) ?_; intro w6 hown6 hgrow6; have HM6 := Lib.hid (madeBools hown6 hgrow6); clear hown6 hgrow6)
    obtain ⟨gm, hgm⟩ : ∃ gm, w5.heap.size = gm := ⟨_, rfl⟩
    rw [hgm]
    have HS := Lib.hid (show Below gm w5 w6 ∧ BRw w6 gm (metL m zs.length (kindsOf os) n 0) from by rw [← hgm]; exact ⟨HM6.out.2, HM6.out.1⟩)
    have HGM := Lib.hid hgm
    clear HM6 hgm hi hz0 hz1 hz2
    go_loopw [15, 16] (fun be i wr => ∃ k : Nat, k ≤ n ∧ i = .int .i64 k ∧ be = .int .i64 (lineAt m zs.length (kindsOf os) k).1 ∧ Hid (Below gm w5 wr ∧ BRw wr gm (metL m zs.length (kindsOf os) n k))) (fun _ i _ => n - (intOf i).toNat)
    case atStart => exact ⟨0, Nat.zero_le _, rfl, rfl, HS⟩
    case round =>
      obtain ⟨k, hk, rfl, rfl, HR⟩ := hrel
      clear HS
      have ho := lineAt_ok (show (0 : Int) ≤ zs.length by omega) hzl (kindsOf os) k
      by_cases hlt : k < n
      · have ma := HMA.out.below (by rw [HGM.out]; exact HR.out.1)
        have c1 := ma.pr.cell (i := k) (by rw [pairsL_length]; exact hlt)
        have c2 := ma.cd.cell (i := k) (by rw [codesL_length]; exact hlt)
        obtain ⟨c3, c4⟩ := ma.tl.cells (i := k) (by rw [resL_length]; exact hlt)
        rw [pairsL_getD hlt] at c1
        rw [codesL_getD hlt] at c2
        rw [resL_getD hlt] at c3 c4
        simp only at c3 c4
        rw [← line_code hzl k] at c3
        have i1 : (k : Int) < (n : Int) := by omega
        have hl0 := ho.low
        have hl1 : (lineAt m zs.length (kindsOf os) k).1 ≤ 1000 := by have := ho.high; omega
        by_cases hp : 0 ≤ lineP (lineAt m zs.length (kindsOf os) k) (kindsOf os k)
        · obtain ⟨hk2, pre, hform, _⟩ := met_form hp
          obtain ⟨q, hq, hqk, hq1, hqc⟩ := places_done (ks := kindsOf os) (show (0 : Int) ≤ zs.length by omega) hzl (x := lineP (lineAt m zs.length (kindsOf os) k) (kindsOf os k)) (k := k) (by generalize lineP (lineAt m zs.length (kindsOf os) k) (kindsOf os k) = pp at *; rw [hform]; simp)
          have hnew := metL_new (n := n) (ks := kindsOf os) (show (0 : Int) ≤ zs.length by omega) hzl hp
          have hval := line_meet hzl hk2 hform
          have HKP := Lib.hid (meet_keep (most := m) (there := zs.length) (ks := kindsOf os) (k := k) (.inl hp))
          have HNX := Lib.hid (show metL m zs.length (kindsOf os) n (k + 1) = (metL m zs.length (kindsOf os) n k).set q true by simp only [metL]; rw [if_pos hp, hq]; simp)
          rw [hq] at hnew hval c1
          simp only [Int.toNat_natCast] at hnew
          rw [hval] at c4
          obtain ⟨b, off, rfl, bl, hc⟩ := ma.ops.2 (by omega)
          have d0 := (hc k hlt).1
          have d1 := (hc q (by omega)).1
          have d2 := (hc q (by omega)).2
          change wr.cell? ⟨b, off + k * 2, none⟩ = some (.int .u8 (kindsOf os k)) at d0
          change wr.cell? ⟨b, off + q * 2, none⟩ = some (.int .u8 (kindsOf os q)) at d1
          rw [show (os.getD q (0, 0)).2 = valOf os q by simp [valOf]] at d2
          rw [hk2] at d0
          rw [hq1] at d1
          have d3 := ma.cd.cell (i := q) (by rw [codesL_length]; omega)
          rw [codesL_getD (by omega), hqc] at d3
          have d4 := HR.out.2.cell (i := q) (by rw [metL_length]; omega)
          rw [hnew] at d4
          have f4 := HR.out.2.free q
          have HRN := Lib.hid (HR.out.2.set q true)
          have q1 : (q : Int) < (k : Int) := by omega
          have q2 : (q : Int) < (n : Int) := by omega
          have q0 : (0 : Int) ≤ (q : Int) := by omega
          clear hc bl ma ho hval hnew hq hqc hq1 hk2 hform hp hl0 hl1
          generalize lineC m (lineAt m zs.length (kindsOf os) k) (kindsOf os k) = cd0 at *
          generalize valOf os q = vq at *
          generalize hbe : (lineAt m zs.length (kindsOf os) k).1 = be at *
          clear hbe
          go_wp2
          go_quiet (fail)
          go_wp2
          go_quiet (fail)
          go_wp2
          go_roundw
          case rel => exact ⟨k + 1, by omega, by go_num, by rw [HKP.out], Lib.hid (by
            rw [HNX.out]
            exact ⟨(below_drewN HR.out.1 _).setCell (p := ⟨gm, q, none⟩) (Nat.le_refl gm) (.bool true), HRN.out⟩)⟩
          case measure => simp [intOf]; omega
        · have hpm : lineP (lineAt m zs.length (kindsOf os) k) (kindsOf os k) = -1 := by have := (lineP_in ho (kindsOf os k)).1; omega
          have HNX := Lib.hid (show metL m zs.length (kindsOf os) n (k + 1) = metL m zs.length (kindsOf os) n k by simp only [metL]; rw [if_neg hp])
          rw [hpm] at c1
          by_cases hc2 : lineC m (lineAt m zs.length (kindsOf os) k) (kindsOf os k) = 2
          · obtain ⟨hk2, hpe, m0, ht, ht2⟩ := meet_take (show (0 : Int) ≤ zs.length by omega) hzl hp hc2
            obtain ⟨hval, hm0l⟩ := line_take hzl hk2 hpe ht
            obtain ⟨b', off', e', _, hcw⟩ := ma.was.2 (by omega)
            injection e' with e'
            injection e' with e1 e2 _
            subst e1 e2
            have d0 := hcw m0 hm0l
            rw [Nat.zero_add] at d0
            rw [hval] at c4
            rw [hc2] at c2 c3
            have HT := Lib.hid ht2
            have e3 : IntKind.i64.wrap (((m0 + 1 : Nat) : Int) - 1) = (m0 : Int) := by rw [IntKind.wrap_i64]; omega
            have e4 : (m0 : Int) < (zs.length : Int) := by omega
            have e5 : (0 : Int) ≤ (m0 : Int) := by omega
            have e6 : decide ((m0 : Int) < 0) = false := by simp
            rw [ht]
            clear ma ho hl0 hl1 hcw hval hm0l hk2 hpe hp hpm ht ht2 hc2
            generalize zs.getD m0 0 = v0 at *
            generalize zs.length = zl at *
            go_wp2
            go_quiet (fail)
            go_wp2
            go_quiet (fail)
            go_wp2
            go_roundw
            case rel => exact ⟨k + 1, by omega, by go_num, by rw [HT.out], Lib.hid (by
              rw [HNX.out]
              exact ⟨below_drewN HR.out.1 _, HR.out.2⟩)⟩
            case measure => simp [intOf]; omega
          · have HKP := Lib.hid (meet_keep (most := m) (there := zs.length) (ks := kindsOf os) (k := k) (.inr hc2))
            generalize lineC m (lineAt m zs.length (kindsOf os) k) (kindsOf os k) = cd0 at *
            generalize hbe : (lineAt m zs.length (kindsOf os) k).1 = be at *
            have hc3 : (cd0 == 2) = false := by simpa using hc2
            clear ma ho hl0 hl1 hp hpm hc2 hbe
            go_wp2
            go_quiet (fail)
            go_wp2
            go_roundw
            case rel => exact ⟨k + 1, by omega, by go_num, by rw [HKP.out], Lib.hid (by
              rw [HNX.out]
              exact ⟨below_drewN HR.out.1 _, HR.out.2⟩)⟩
            case measure => simp [intOf]; omega
      · obtain rfl : n = k := by omega
        clear hlt ho
        have hb := HR.out.1
        rw [← HGM.out] at hb
        have HBk := Lib.hid hb
        clear hb
        go_wp2_with fail
        refine (known _).mono ?_
        rintro e w7 ⟨rfl, b7⟩
        have hb7 := HBk.out.trans (b7.mono HBk.out.size)
        have C := sparedAny w7 zs.length m ao n cap os (HMA.out.ops.keep hb7) (by omega)
        rw [mostOf_self m hm0 (by omega), show haveOf zs.length m = (zs.length : Int) by unfold haveOf; rw [if_neg (by omega), if_neg (by omega)]] at C
        have HB7 := Lib.hid (HB5.out.trans (hb7.mono HB5.out.size))
        clear b7 hb7 HBk HR HMA
        go_wp2_with fail
        refine C.mono ?_
        clear C
        rintro e w8 ⟨rfl, b8⟩
        have HB8 := Lib.hid (HB7.out.trans (b8.mono HB7.out.size))
        have hh := met_half (ks := kindsOf os) (show (0 : Int) ≤ zs.length by omega) hzl n
        have hh2 : metN (pairsL m zs.length (kindsOf os) n) ≤ (n : Int) / 2 := by omega
        clear hh b8 HB7
        generalize metN (pairsL m zs.length (kindsOf os) n) = q at *
        go_wp2
        go_ret
        exact ⟨rfl, HB8.out⟩

end Go.Proofs.Ytephmkekgmpnpaa
