/-
  The function SortedCoins returns true: as many heights are drawn as items are put, and no bit more; without lists none. Conditions: lists of bytes as they came in.
-/
import Derived.Test.YtmkpmnmllgdppaaCoinsPl11m
namespace Go.Proofs.Ytmkpmnmllgdppaa
open Go.RowKit Go.Lib

section
variable {w w1 a b : World} {F G H Gx Gy : Nat → Prop} {sp : Option Nat} {p q qx qy : Nat} {m : Int} {s : List It × List Bool} {bx bs by' : List Bool}
/-- What others write is none of a list's and a coin's. -/
theorem PrAt.other (h : PrAt w F G sp q m s a) (hw : Wrote H a b) (hF : Apart F H) (hG : Apart G H) (hn : ∀ g, H g → w.heap.size ≤ g) : PrAt w F G sp q m s b :=
  ⟨h.sk.apart hw hF, h.co.apart hw hG, h.ap, h.b.trans (hw.below h.b.size hn), h.nF, h.nG⟩

/-- Two coins beside one another. -/
structure CC (w1 : World) (Gx Gy : Nat → Prop) (qx qy : Nat) (bx bs : List Bool) (a : World) : Prop where
  cx : Coin a Gx qx bx
  cy : Coin a Gy qy bs
  ap : Apart Gx Gy
  b : Below w1.heap.size w1 a
  nY : ∀ g, Gy g → w1.heap.size ≤ g
theorem CC.fresh (h : CC w1 Gx Gy qx qy bx bs a) (hb : Below a.heap.size a b) : CC w1 Gx Gy qx qy bx bs b := ⟨h.cx.fresh hb, h.cy.fresh hb, h.ap, h.b.trans (hb.mono h.b.size), h.nY⟩
theorem CC.nextY (h : CC w1 Gx Gy qx qy bx bs a) (d : DidC Gy qy by' a b) : ∃ Gy', CC w1 Gx Gy' qx qy bx by' b ∧ Later Gy Gy' a ∧ Wrote Gy a b := by
  obtain ⟨G', k, wr, lt⟩ := d
  refine ⟨G', ⟨h.cx.apart wr h.ap, k, (lt.apart h.ap.symm h.cx.foot).symm, h.b.trans (wr.below h.b.size h.nY), fun g hg => ?_⟩, lt, wr⟩
  rcases lt g hg with h1 | h1
  · exact h.nY g h1
  · exact Nat.le_trans h.b.size h1
end

/-- In the first loop: the coins, the row of what is told. -/
def CoAt (w1 : World) (qx qy : Nat) (bx bs : List Bool) (g : Nat) (T : List (Int × Int)) (wr : World) : Prop :=
  ∃ Gx Gy, CC w1 Gx Gy qx qy bx bs wr ∧ RRow wr g T ∧ ¬ Gy g
theorem CoAt.next {w1 wr w2 : World} {qx qy g : Nat} {bx bs by' : List Bool} {T : List (Int × Int)} {Gx Gy : Nat → Prop} (h : CC w1 Gx Gy qx qy bx bs wr) (hr : RRow wr g T) (hn : ¬ Gy g) (d : DidC Gy qy by' wr w2) : CoAt w1 qx qy bx by' g T w2 := by
  obtain ⟨Gy', k, lt, hw⟩ := h.nextY d
  exact ⟨Gx, Gy', k, hr.keep (hw.block g hr.lt hn), Later.not lt hn hr.lt⟩

set_option maxRecDepth 100000 in
set_option maxHeartbeats 32000000 in
theorem coinsWalk {w : World} (x : Int) (al : Option Addr) (nl cl : Nat) (xs : List Int) (ab : Option Addr) (nb cb : Nat) (ys : List Int) (x0 : 0 ≤ x) (x1 : x ≤ 255) (hx : ArgBytes w al nl cl xs) (hnl : nl ≤ 140737488351232) (hy : ArgBytes w ab nb cb ys) (hnb : nb ≤ 140737488351232) :
    Calls Try.prog 6 #[.int .u8 x, .slice al nl cl, .slice ab nb cb] w fun e w' => e = .returned (.bool true) ∧ Below w.heap.size w w' := by
  by_cases h60 : 60 < (nb : Int)
  · clear hx hy
    go_enter Try.func6, Try.ntmps6
    go_wp2_with fail
    refine (known _).mono ?_
    rintro e w1 ⟨rfl, b1⟩
    have HB := Lib.hid b1
    clear b1
    go_wp2
    go_ret
    exact ⟨rfl, HB.out⟩
  obtain ⟨m, hm⟩ : ∃ m, x % 12 = m := ⟨_, rfl⟩
  have hm0 : 0 ≤ m ∧ m ≤ 11 := by omega
  have hmo := mostOf_self m hm0.1 (by omega)
  have hmt : x.tmod 12 = m := by rw [Int.tmod_eq_emod_of_nonneg x0]; exact hm
  clear hm
  have hln := opsL_len 3 xs
  have C := opsAny w al nl cl xs 3 hx.1 hx.2.2.2 (by omega) (by omega) (by omega)
  clear hx
  have HY := Lib.hid hy
  clear hy
  generalize opsL 3 xs = os at *
  obtain ⟨n, hn⟩ : ∃ n, os.length = n := ⟨_, rfl⟩
  have HLO := Lib.hid hn
  have hn80 : n ≤ 80 := by omega
  have HM := Lib.hid hm0.1
  have hnb2 : nb ≤ 60 := by omega
  clear hln
  go_enter Try.func6, Try.ntmps6
  go_wp2_with fail
  refine C.mono ?_
  clear C
  rintro e w1 ⟨ao, cap, rfl, o1, _, b1⟩
  rw [hn] at o1 ⊢
  clear hn
  have HB1 := Lib.hid b1
  have HO1 := Lib.hid o1
  have HY1 := Lib.hid (HY.out.1.keep b1)
  have HYO := Lib.hid (show 0 < nb → ∀ a, ab = some a → a.block < w1.heap.size from fun hp a e => by obtain ⟨b', o', e', l', _⟩ := HY1.out.2 hp; rw [e'] at e; injection e with e; subst e; exact l')
  clear b1 o1
  go_wp2_with fail
  refine (newS _ w1).mono ?_
  rintro e w2 ⟨rfl, s1, bl1⟩
  rw [hmo] at s1
  go_wp2_with fail
  refine (newC w2).mono ?_
  rintro e w3 ⟨rfl, c2, bl2⟩
  have P3 := PrAt.start s1 bl1 c2 bl2
  go_wp2_with fail
  refine (newC w3).mono ?_
  rintro e w4 ⟨rfl, c3, bl3⟩
  have P4 := P3.fresh bl3
  have A4 : Apart (New w1 w2) (New w3 w4) := fun g h1 h2 => by have := h1.2; have := h2.1; have := bl2.size; omega
  have B4 : Apart (New w2 w3) (New w3 w4) := fun g h1 h2 => by have := h1.2; have := h2.1; omega
  have NY : ∀ g, New w3 w4 g → w1.heap.size ≤ g := fun g hg => by have := hg.1; have := bl1.size; have := bl2.size; omega
  have HP := Lib.hid (And.intro P4 (And.intro c3 (And.intro A4 (And.intro B4 NY))))
  have hpt := (P4.old (fun hp a e => .inl (HYO.out hp a e)) (n := nb) (ao := ab)).2
  have C := feedAny P4.co (cap := cb) (HY1.out.keep P4.b) hpt HY.out.2.2.2 (by omega)
  clear P3 P4 s1 c2 c3 bl1 bl2 bl3 A4 B4 NY hpt
  generalize New w1 w2 = F at *
  generalize New w2 w3 = Gx at *
  generalize New w3 w4 = Gy at *
  go_wp2_with fail
  refine C.mono ?_
  clear C
  rintro e w5 ⟨rfl, d5⟩
  obtain ⟨Gx5, P5, lt5, wr5⟩ := HP.out.1.coin d5
  have cy5 := HP.out.2.1.apart wr5 HP.out.2.2.2.1.symm
  have ap5 := lt5.apart HP.out.2.2.2.1 HP.out.2.1.foot
  have HK5 := Lib.hid (And.intro P5 (And.intro cy5 ap5))
  have C := feedAny cy5 (cap := cb) (HY1.out.keep P5.b) (fun hp a e hf => by have := HP.out.2.2.2.2 _ hf; have := HYO.out hp a e; omega) HY.out.2.2.2 (by omega)
  clear d5 lt5 wr5 P5 cy5 ap5
  go_wp2_with fail
  refine C.mono ?_
  clear C
  rintro e w6 ⟨rfl, d6⟩
  obtain ⟨Gy6, cy6, wr6, lt6⟩ := d6
  have P6 := HK5.out.1.other wr6 HP.out.2.2.1 HK5.out.2.2 HP.out.2.2.2.2
  have aF6 := (lt6.apart HP.out.2.2.1.symm HK5.out.1.sk.1).symm
  have aX6 := (lt6.apart HK5.out.2.2.symm HK5.out.1.co.foot).symm
  have nY6 : ∀ g, Gy6 g → w1.heap.size ≤ g := fun g hg => by
    rcases lt6 g hg with h | h
    · exact HP.out.2.2.2.2 g h
    · exact Nat.le_trans HK5.out.1.b.size h
  generalize feedL [] ys = bs at *
  have HK6 := Lib.hid (And.intro P6 (And.intro cy6 (And.intro aF6 (And.intro aX6 nY6))))
  have hoff := P6.old (ao := ao) (n := n) (fun hp y hy => .inl (opsOld HO1.out hp y hy))
  have C := applyAny P6.sk P6.co P6.ap ao n cap os (HO1.out.keep P6.b) hoff.1 hoff.2 (by omega)
  clear P6 cy6 wr6 lt6 aF6 aX6 nY6 hoff HK5 HP
  go_wp2_with fail
  refine C.mono ?_
  clear C
  rintro e w7 hp
  obtain ⟨g, F7, G7, rfl, rg, hg, P7, nF7, nG7, wr7, lF7, lG7⟩ := HK6.out.1.post hp
  rw [HLO.out]
  rw [show batT 3 m (vals ([] : List It)) os = batT 3 m [] os from rfl] at rg
  have hbits : (batS m (([] : List It), bs) os).2 = lefts bs (roomS m [] os) := batS_bits bs os (by simpa using HM.out)
  have hdone : cntC 1 (batT 3 m [] os) os.length = roomS m [] os := done_room (l := []) os (by simpa using HM.out)
  have cx7 := P7.co
  rw [hbits] at cx7
  have cy7 := HK6.out.2.1.apart wr7 (fun k h1 h2 => h2.elim (fun h => HK6.out.2.2.1 k h h1) (fun h => HK6.out.2.2.2.1 k h h1))
  have a7 := lG7.apart HK6.out.2.2.2.1 HK6.out.2.1.foot
  have ngy : ¬ Gy6 g := fun e => by have := HK6.out.2.1.foot _ e; omega
  have HS := Lib.hid (show CoAt w1 w2.heap.size w3.heap.size (lefts bs (roomS m [] os)) (lefts bs (cntC 1 (batT 3 m [] os) 0)) g (batT 3 m [] os) w7 from ⟨G7, Gy6, ⟨cx7, cy7, a7, P7.b, HK6.out.2.2.2.2⟩, rg, ngy⟩)
  rw [HLO.out] at hdone
  have HD := Lib.hid hdone
  have HTL := Lib.hid (show (batT 3 m [] os).length = n by rw [batT_length]; exact HLO.out)
  clear hp rg hg P7 nF7 nG7 wr7 lF7 lG7 hbits hdone cx7 cy7 a7 ngy HK6
  generalize batT 3 m [] os = T at *
  generalize roomS m [] os = r at *
  obtain ⟨bx, hbx⟩ : ∃ x, lefts bs r = x := ⟨_, rfl⟩
  rw [hbx] at HS
  have HBX := Lib.hid hbx
  clear hbx
  generalize w2.heap.size = qx at *
  generalize w3.heap.size = qy at *
  go_wp2_with fail
  go_loopw [12] (fun i wr => ∃ k : Nat, k ≤ n ∧ i = .int .i64 k ∧ CoAt w1 qx qy bx (lefts bs (cntC 1 T k)) g T wr) (fun i _ => n - (intOf i).toNat)
  case atStart => exact ⟨0, Nat.zero_le _, rfl, HS.out⟩
  case round =>
    obtain ⟨k, hk, rfl, Gx, Gy, hC, hr, hn⟩ := hrel
    clear HS
    by_cases hlt : k < n
    · have hTl := HTL.out
      obtain ⟨c0, _⟩ := hr.cells (i := k) (by omega)
      have i1 : (k : Int) < n := by omega
      have hsu : cntC 1 T (k + 1) = cntC 1 T k + if (T.getD k (0, 0)).1 = 1 then 1 else 0 := rfl
      obtain ⟨tc, htc⟩ : ∃ x, (T.getD k (0, 0)).1 = x := ⟨_, rfl⟩
      rw [htc] at c0 hsu
      clear htc hTl
      by_cases h1 : tc = 1
      · subst h1
        rw [if_pos rfl] at hsu
        have HSU := Lib.hid hsu
        have C := Lib.hid (heightAny hC.cy)
        have HN := Lib.hid (fun (w2 : World) (d : DidC Gy qy (left (lefts bs (cntC 1 T k))) wr w2) => CoAt.next hC hr hn d)
        clear hsu hC hr hn
        go_wp2_with fail
        refine C.out.mono ?_
        rintro e w8 ⟨rfl, d⟩
        have HN8 := Lib.hid (HN.out w8 d)
        clear d HN C c0
        go_wp2
        go_roundw
        case rel => exact ⟨k + 1, by omega, by go_num, by rw [HSU.out]; exact HN8.out⟩
        case measure => simp [intOf]; omega
      · rw [if_neg h1, Nat.add_zero] at hsu
        have HSU := Lib.hid hsu
        have HN8 := Lib.hid (show CoAt w1 qx qy bx (lefts bs (cntC 1 T k)) g T wr from ⟨Gx, Gy, hC, hr, hn⟩)
        have d1 : (tc == 1) = false := by simpa using h1
        clear hsu hC hr hn h1
        go_wp2
        go_roundw
        case rel => exact ⟨k + 1, by omega, by go_num, by rw [HSU.out]; exact HN8.out⟩
        case measure => simp [intOf]; omega
    · obtain rfl : n = k := by omega
      clear hlt
      rw [HD.out, HBX.out] at hC
      have HCC := Lib.hid hC
      have L := leftAny hC.cy
      clear hC hr hn
      go_wp2_with fail
      refine L.mono ?_
      clear L
      rintro e w8 ⟨rfl, rfl⟩
      have PN : PrAt w1 (fun _ => False) Gy none qy 0 (([] : List It), bx) wr := ⟨⟨fun _ h => h.elim, rfl, rfl⟩, HCC.out.cy, fun _ h _ => h.elim, HCC.out.b, fun _ h => h.elim, HCC.out.nY⟩
      have HPN := Lib.hid PN
      have hoff := PN.old (ao := ao) (n := n) (fun hp y hy => .inl (opsOld HO1.out hp y hy))
      have C := applyAny PN.sk PN.co PN.ap ao n cap os (HO1.out.keep PN.b) hoff.1 hoff.2 (by omega)
      rw [show ptrS none = none from rfl] at C
      clear PN hoff
      go_wp2_with fail
      refine C.mono ?_
      clear C
      rintro e w9 hp
      obtain ⟨g2, F9, G9, rfl, rg, _, P9, _, _, wr9, _, _⟩ := HPN.out.post hp
      rw [HLO.out]
      rw [show batT 3 0 (vals ([] : List It)) os = batT 3 0 [] os from rfl] at rg
      have cy9 := P9.co
      rw [bat_nil_bits] at cy9
      have cx9 := HCC.out.cx.apart wr9 (fun k h1 h2 => h2.elim id (fun h => HCC.out.ap k h1 h))
      have HK9 := Lib.hid (And.intro cx9 (And.intro cy9 (And.intro P9.b rg)))
      have HT3 := Lib.hid (fun (i : Nat) (hi : i < n) => bat_nil_told os (i := i) (by rw [HLO.out]; exact hi))
      have HT0 := Lib.hid (show (batT 3 0 [] os).length = n by rw [batT_length]; exact HLO.out)
      have HS2 := Lib.hid (Below.refl w9.heap.size w9)
      clear hp rg P9 wr9 cy9 cx9 HPN HCC
      generalize batT 3 0 [] os = T0 at *
      go_wp2_with fail
      go_loopw [15, 16] (fun f i wr => ∃ k : Nat, k ≤ n ∧ i = .int .i64 k ∧ f = .bool true ∧ Below w9.heap.size w9 wr) (fun _ i _ => n - (intOf i).toNat)
      case atStart => exact ⟨0, Nat.zero_le _, rfl, by simp, HS2.out⟩
      case round =>
        obtain ⟨k, hk, rfl, rfl, hbe⟩ := hrel
        clear HS2
        by_cases hlt : k < n
        · have hTl := HT0.out
          obtain ⟨c0, _⟩ := (HK9.out.2.2.2.below hbe).cells (i := k) (by omega)
          have i1 : (k : Int) < n := by omega
          have h3 := HT3.out k hlt
          have HB2 := Lib.hid hbe
          clear hTl hbe
          generalize (T0.getD k (0, 0)).1 = tc at *
          go_wp2
          go_roundw
          case rel => exact ⟨k + 1, by omega, by go_num, rfl, HB2.out⟩
          case measure => simp [intOf]; omega
        · obtain rfl : n = k := by omega
          clear hlt
          have HBE := Lib.hid hbe
          clear hbe
          go_wp2_with fail
          refine (known _).mono ?_
          rintro e w10 ⟨rfl, b10⟩
          have hb := HBE.out.trans (b10.mono HBE.out.size)
          have L1 := leftAny (HK9.out.1.fresh hb)
          have L2 := leftAny (HK9.out.2.1.fresh hb)
          have HFin := Lib.hid (HB1.out.trans ((HK9.out.2.2.1.trans (hb.mono HK9.out.2.2.1.size)).mono HB1.out.size))
          clear b10 hb
          go_wp2_with fail
          refine L1.mono ?_
          clear L1
          rintro e w11 ⟨rfl, rfl⟩
          go_wp2_with fail
          refine L2.mono ?_
          clear L2
          rintro e w11 ⟨rfl, rfl⟩
          go_wp2
          go_ret
          exact ⟨rfl, HFin.out⟩

end Go.Proofs.Ytmkpmnmllgdppaa
