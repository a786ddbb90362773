/-
  The walk of CoinDoes: for all deeds it answers true and leaves all old memory as it was.
-/
import Derived.Test.YtkpjgekhcjjlpaaRef06
import Derived.Test.YtkpjgekhcjjlpaaDeeds6
namespace Go.Proofs.Ytkpjgekhcjjlpaa
open Go.RowKit

/-- A coin, and the document's list beside it. -/
structure Duo (w : World) (F : Nat → Prop) (p : Nat) (bs : List Bool) (r : Value) (cs : List Bool) (a : World) : Prop where
  c : At w F p bs a
  l : Tail a r (cs.map Value.bool)
  off : ∀ g, r.ownBlock = some g → ¬ F g

section
variable {w a b : World} {F : Nat → Prop} {p q : Nat} {bs bs' cs cs' : List Bool} {r v : Value}
theorem Duo.fresh (h : Duo w F p bs r cs a) (hb : Below a.heap.size a b) : Duo w F p bs r cs b := ⟨h.c.fresh hb, h.l.keep hb.size (fun g e => hb.block g (h.l.lt e)), h.off⟩
theorem Duo.nextC (h : Duo w F p bs r cs a) (d : Did F p bs' a b) : ∃ F', Duo w F' p bs' r cs b := by
  obtain ⟨F', k, wr, l⟩ := h.c.next d
  exact ⟨F', k, h.l.keep wr.size (fun g e => wr.block g (h.l.lt e) (h.off g e)), fun g e => l.not (h.off g e) (h.l.lt e)⟩
theorem Duo.fedd (h : Duo w F p bs r cs a) (f : Fedd a cs' v b) : Duo w F p bs v cs' b := ⟨h.c.fresh f.2.1, f.1, fun g e hf => by have := f.2.2 g e; have := h.c.lt g hf; omega⟩
theorem Duo.less (h : Duo w F p bs r cs a) (f : RefLess a r cs' v b) : Duo w F p bs v cs' b := ⟨h.c.fresh f.2.2, f.1, fun g e => h.off g (by rw [← f.2.1]; exact e)⟩
theorem Duo.copied (h : Duo w F p bs r cs a) (s : Coin b (New a b) q bs) (hb : Below a.heap.size a b) : Duo w (New a b) q bs r cs b :=
  ⟨(h.c.copied s hb).1, (h.fresh hb).l, fun g e hf => by have := h.l.lt e; have := hf.1; omega⟩
theorem Duo.shape (h : Duo w F p bs r cs a) : ∃ ro rc, r = .slice ro cs.length rc := by
  obtain ⟨ro, rc, e, _⟩ := h.l.shape
  exact ⟨ro, rc, by simpa using e⟩
end

/-- What holds at each round's head. -/
def DRel (w : World) (c r : Value) (wr : World) : Prop := ∃ F p bs, c = .pointer (some ⟨p, 0, none⟩) ∧ Duo w F p bs r bs wr

set_option maxRecDepth 100000 in
set_option maxHeartbeats 32000000 in
theorem doesWalk {w : World} (ao : Option Addr) (len cap : Nat) (xs : List Deed6) (hx : ArgDeeds w ao len cap xs) (hlen : len ≤ 140737488351232) :
    Calls Try.prog 3 #[.slice ao len cap] w fun e w' => e = .returned (.bool true) ∧ Below w.heap.size w w' := by
  have HX := Lib.hid hx.1
  have HG := Lib.hid hx.2.2.2
  have HL := Lib.hid hx.1.1
  have HS0 := Lib.hid (show len = sumN xs 0 by rw [sumN_zero, hx.1.1])
  clear hx
  go_enter Try.func3, Try.ntmps3
  go_wp2
  go_loopw [3, 4] (fun t i wr => ∃ k T : Nat, k ≤ len ∧ i = .int .i64 k ∧ t = .int .i64 T ∧ Hid (T = sumN xs k) ∧ T ≤ 140737488355328 ∧ w = wr) (fun _ i _ => len - (intOf i).toNat)
  case atStart => exact ⟨0, len, Nat.zero_le _, rfl, rfl, Lib.hid HS0.out, by omega, rfl⟩
  case round =>
    obtain ⟨k, T, hk, rfl, rfl, HT, hT, rfl⟩ := hrel
    by_cases hT3 : 300 < T
    · have hT4 : (300 : Int) < (T : Int) := by omega
      clear hT3
      by_cases hlt : k < len
      · have i1 : (k : Int) < len := by omega
        go_wp2_with (go_at_call 9; refine (known _).mono ?_; rintro e w3 ⟨rfl, b3⟩; have HB3 := Lib.hid b3; clear b3)
        go_ret
        exact ⟨rfl, HB3.out⟩
      · have i1 : ¬ (k : Int) < len := by omega
        go_wp2_with (go_at_call 9; refine (known _).mono ?_; rintro e w3 ⟨rfl, b3⟩; have HB3 := Lib.hid b3; clear b3)
        go_ret
        exact ⟨rfl, HB3.out⟩
    · by_cases hlt : k < len
      · obtain ⟨bb, oo, rfl, lb, hc⟩ := HX.out.2 (by omega)
        obtain ⟨_, cx⟩ := hc k hlt
        have hgood : (xs.getD k Deed6.no).good w := HG.out _ (by
          have : k < xs.length := by rw [HL.out]; exact hlt
          simp [List.getD, this])
        have hn := hgood.2.2
        have HSS := Lib.hid (sumN_succ xs k (by rw [HL.out]; exact hlt))
        clear hc hgood
        generalize xs.getD k Deed6.no = x at *
        obtain ⟨xk, xo, xn, xc, xz⟩ := x
        simp only at cx hn
        have i1 : (k : Int) < len := by omega
        have hT4 : (T : Int) ≤ 300 := by omega
        have HN := Lib.hid (show sumN xs (k + 1) = sumN xs k + xn from HSS.out)
        clear HSS
        go_wp2
        go_roundw
        case rel => exact ⟨k + 1, T + xn, by omega, by go_num, by go_num, Lib.hid (by rw [HN.out, HT.out]), by omega, by first | trivial | rfl⟩
        case measure => simp [intOf]; omega
      · obtain rfl : k = len := by omega
        have hT4 : (T : Int) ≤ 300 := by omega
        have HA := Lib.hid (show ∀ j, j < k → (xs.getD j Deed6.no).n ≤ 300 ∧ k ≤ 300 from fun j hj => by
          have h1 := sumN_all xs j (by rw [HL.out]; exact hj) (by rw [HL.out, ← HT.out]; omega)
          rwa [HL.out] at h1)
        have i1 : ¬ (k : Int) < k := by omega
        go_wp2_with fail
        refine (known _).mono ?_
        rintro e w3 ⟨rfl, b3⟩
        have HB3 := Lib.hid b3
        clear b3
        go_wp2_with fail
        refine (newAny w3).mono ?_
        rintro e w4 ⟨rfl, s4, b4⟩
        have HS := Lib.hid (show DRel w (.pointer (some ⟨w3.heap.size, 0, none⟩)) (.slice none 0 0) w4 from ⟨_, _, [], rfl, ⟨⟨s4, HB3.out.trans (b4.mono HB3.out.size), fun g hg => Nat.le_trans HB3.out.size hg.1⟩, Tail.nothing, fun g e => by cases e⟩⟩)
        clear s4 b4 HB3 HT HS0 i1 hT4 hT hT3
        go_wp2
        go_loopw [5, 6, 7] (fun c r i wr' => ∃ j : Nat, j ≤ k ∧ i = .int .i64 j ∧ DRel w c r wr') (fun _ _ i _ => k - (intOf i).toNat)
        case atStart => exact ⟨0, Nat.zero_le _, rfl, HS.out⟩
        case round =>
          obtain ⟨j, hj, rfl, F, p, bs, rfl, hD⟩ := hrel
          clear HS
          by_cases hlt2 : j < k
          · obtain ⟨bb, oo, rfl, lb, hc⟩ := HX.out.2 (by omega)
            obtain ⟨cx0, cx1⟩ := hc j hlt2
            have cy0 := (hD.c.2.1.cell (p := ⟨bb, oo + j * 2, none⟩) lb).trans cx0
            have cy1 := (hD.c.2.1.cell (p := ⟨bb, oo + j * 2 + 1, none⟩) lb).trans cx1
            have hgood : (xs.getD j Deed6.no).good w := HG.out _ (by
              have : j < xs.length := by rw [HL.out]; exact hlt2
              simp [List.getD, this])
            have hn := (HA.out j hlt2).1
            obtain ⟨ro, rc, hrs⟩ := hD.shape
            subst hrs
            have hbl : bs.length ≤ 20000 := hD.c.1.len
            have HD := Lib.hid hD
            have HLB := Lib.hid lb
            have HBL := Lib.hid hbl
            have HCX := Lib.hid (And.intro cx0 cx1)
            clear hc cx0 cx1 hD lb hbl
            generalize xs.getD j Deed6.no = x at *
            obtain ⟨xk, xo, xn, xc, xz⟩ := x
            obtain ⟨⟨k0, k1⟩, hgz, _⟩ := hgood
            simp only at cy0 cy1 hn k0 k1 hgz
            have HGZ := Lib.hid hgz
            clear hgz
            have i1 : (j : Int) < k := by omega
            rcases (show xk % 4 = 0 ∨ xk % 4 = 1 ∨ xk % 4 = 2 ∨ xk % 4 = 3 by omega) with hk4 | hk4 | hk4 | hk4
            · have HK4 := Lib.hid hk4
              clear hk4
              go_upto_region 17 with (fail)
              rw [HK4.out]
              clear HK4 k0 k1
              have C := feedAny HD.out.c.1 (cap := xc) (HGZ.out.1.keep HD.out.c.2.1) (HD.out.c.old HGZ.out.1.old) HGZ.out.2.2.2 (by omega)
              go_wp2_with fail
              refine C.mono ?_
              clear C
              rintro e w5 ⟨rfl, d5⟩
              obtain ⟨F5, u5⟩ := HD.out.nextC d5
              have HD5 := Lib.hid u5
              have cz1 := (HD5.out.c.2.1.cell (p := ⟨bb, oo + j * 2 + 1, none⟩) HLB.out).trans HCX.out.2
              clear d5 u5 HD
              have C := refFeed w5 (.slice ro bs.length rc) bs xo xn xc xz HD5.out.l HBL.out (HGZ.out.1.keep HD5.out.c.2.1) HGZ.out.2.2.2 (by omega)
              go_wp2_with fail
              refine C.mono ?_
              clear C
              rintro e w6 ⟨v6, rfl, f6⟩
              obtain ⟨ro6, rc6, hv6⟩ := (HD5.out.fedd f6).shape
              subst hv6
              have HD6 := Lib.hid (HD5.out.fedd f6)
              clear f6 HD5
              -- the round's end
              have C := leftAny HD6.out.c.1
              have HDN := Lib.hid (show DRel w (.pointer (some ⟨p, 0, none⟩)) (.slice ro6 (feedL bs xz).length rc6) w6 from ⟨_, _, _, rfl, HD6.out⟩)
              clear HD6
              have HBN := Lib.hid (show (feedL bs xz).length ≤ 20000 from feedL_le _ _)
              generalize (feedL bs xz).length = l at *
              go_wp2_with fail
              refine C.mono ?_
              clear C
              rintro e w' ⟨rfl, rfl⟩
              go_wp2
              go_roundw
              case rel => exact ⟨j + 1, by omega, by go_num, HDN.out⟩
              case measure => simp [intOf]; omega
            · have HK4 := Lib.hid hk4
              clear hk4
              go_upto_region 17 with (fail)
              rw [HK4.out]
              clear HK4 k0 k1
              have C := refToss _ (.slice ro bs.length rc) bs HD.out.l HBL.out
              go_wp2_with fail
              refine C.mono ?_
              clear C
              rintro e w5 ⟨v5, rfl, f5⟩
              obtain ⟨ro5, rc5, hv5⟩ := (HD.out.less f5).shape
              subst hv5
              have HD5 := Lib.hid (HD.out.less f5)
              clear f5 HD
              have C := tossAny HD5.out.c.1
              have HBT := Lib.hid (show bs.tail.length ≤ 20000 by rw [List.length_tail]; have := HBL.out; omega)
              generalize bs.headD false = bit at *
              generalize bs.tail = ts at *
              go_wp2_with fail
              refine C.mono ?_
              clear C
              rintro e w6 ⟨rfl, d6⟩
              obtain ⟨F6, u6⟩ := HD5.out.nextC d6
              have HD6 := Lib.hid u6
              clear d6 u6 HD5
              -- the round's end
              have C := leftAny HD6.out.c.1
              have HDN := Lib.hid (show DRel w (.pointer (some ⟨p, 0, none⟩)) (.slice ro5 ts.length rc5) w6 from ⟨_, _, _, rfl, HD6.out⟩)
              clear HD6
              have HBN := Lib.hid (show ts.length ≤ 20000 from HBT.out)
              generalize ts.length = l at *
              go_wp2_with fail
              refine C.mono ?_
              clear C
              rintro e w' ⟨rfl, rfl⟩
              go_wp2
              go_roundw
              case rel => exact ⟨j + 1, by omega, by go_num, HDN.out⟩
              case measure => simp [intOf]; omega
            · have HK4 := Lib.hid hk4
              clear hk4
              go_upto_region 17 with (fail)
              rw [HK4.out]
              clear HK4 k0 k1
              have C := refHeight _ (.slice ro bs.length rc) bs HD.out.l HBL.out
              unfold RHigh at C
              have u7 := up_le bs
              go_wp2_with fail
              refine C.mono ?_
              clear C
              rintro e w5 ⟨v5, rfl, f5⟩
              obtain ⟨ro5, rc5, hv5⟩ := (HD.out.less f5).shape
              subst hv5
              have HD5 := Lib.hid (HD.out.less f5)
              clear f5 HD
              have C := heightAny HD5.out.c.1
              unfold High at C
              have HBT := Lib.hid (show (left bs).length ≤ 20000 by have := left_le bs; have := HBL.out; omega)
              generalize up bs = u at *
              generalize left bs = ts at *
              go_wp2_with fail
              refine C.mono ?_
              clear C
              rintro e w6 ⟨rfl, d6⟩
              obtain ⟨F6, u6⟩ := HD5.out.nextC d6
              have HD6 := Lib.hid u6
              clear d6 u6 HD5
              -- the round's end
              have C := leftAny HD6.out.c.1
              have HDN := Lib.hid (show DRel w (.pointer (some ⟨p, 0, none⟩)) (.slice ro5 ts.length rc5) w6 from ⟨_, _, _, rfl, HD6.out⟩)
              clear HD6
              have HBN := Lib.hid (show ts.length ≤ 20000 from HBT.out)
              generalize ts.length = l at *
              go_wp2_with fail
              refine C.mono ?_
              clear C
              rintro e w' ⟨rfl, rfl⟩
              go_wp2
              go_roundw
              case rel => exact ⟨j + 1, by omega, by go_num, HDN.out⟩
              case measure => simp [intOf]; omega
            · have HK4 := Lib.hid hk4
              clear hk4
              go_upto_region 17 with (fail)
              rw [HK4.out]
              clear HK4 k0 k1
              have C := copyAny HD.out.c.1
              go_wp2_with fail
              refine C.mono ?_
              clear C
              rintro e w5 ⟨q, rfl, s5, b5⟩
              have HD5 := Lib.hid (HD.out.copied s5 b5)
              clear s5 b5 HD
              -- the round's end
              have C := leftAny HD5.out.c.1
              have HDN := Lib.hid (show DRel w (.pointer (some ⟨q, 0, none⟩)) (.slice ro bs.length rc) w5 from ⟨_, _, _, rfl, HD5.out⟩)
              clear HD5
              have HBN := Lib.hid (show bs.length ≤ 20000 from HBL.out)
              generalize bs.length = l at *
              go_wp2_with fail
              refine C.mono ?_
              clear C
              rintro e w' ⟨rfl, rfl⟩
              go_wp2
              go_roundw
              case rel => exact ⟨j + 1, by omega, by go_num, HDN.out⟩
              case measure => simp [intOf]; omega
          · obtain rfl : j = k := by omega
            have HD := Lib.hid hD
            clear hD
            go_wp2
            go_ret
            exact ⟨rfl, HD.out.c.2.1⟩

end Go.Proofs.Ytkpjgekhcjjlpaa
