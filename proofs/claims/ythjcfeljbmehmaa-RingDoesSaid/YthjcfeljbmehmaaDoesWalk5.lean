/-
  The walk of RingDoes: for all numbers, operations and bytes it answers true and leaves all old memory as it was.
-/
import Derived.Test.YthjcfeljbmehmaaRef05
namespace Go.Proofs.Ythjcfeljbmehmaa
open Go.RowKit

/-- What holds at each round's head. -/
def DoesRel (w : World) (p : Nat) (m : Int) (len : Nat) (l i : Value) (wr : World) : Prop :=
  ∃ (k : Nat) (F : Nat → Prop) (zs : List Int) (ao : Option Addr) (cap : Nat), k ≤ len ∧ i = .int .i64 k ∧ l = .slice ao zs.length cap ∧ zs.length ≤ cap ∧ At w F p m zs wr ∧ Beside F wr ao zs.length zs

theorem beside_next {a b : World} {F : Nat → Prop} {ao ao' : Option Addr} {n : Nat} {zs zs' : List Int} (hF : ∀ g, F g → g < a.heap.size) (h : Beside F a ao n zs) (hr : Reads .i32 b ao' zs'.length zs') (hor : ao' = ao ∨ ∀ x, ao' = some x → a.heap.size ≤ x.block ∧ x.block < b.heap.size) (hb : Below a.heap.size a b) : Beside F b ao' zs'.length zs' := by
  rcases hor with e | e
  · subst e
    exact ⟨hr, h.2.1, fun x hx => Nat.lt_of_lt_of_le (h.2.2 x hx) hb.size⟩
  · exact ⟨hr, fun x hx hg => by have := hF _ hg; have := (e x hx).1; omega, fun x hx => (e x hx).2⟩

set_option maxRecDepth 100000 in
set_option maxHeartbeats 16000000 in
theorem doesTrue {w : World} (most : Int) (ao : Option Addr) (len cap : Nat) (os : List (Int × Int)) (ho : OpsAt w ao len os) (hk : ∀ o ∈ os, 0 ≤ o.1 ∧ o.1 ≤ 255) (hlen : len ≤ 1000) :
    Calls Try.prog 11 #[.int .i64 most, .slice ao len cap] w fun e w' => e = .returned (.bool true) ∧ Below w.heap.size w w' := by
  have hq := eqSelf
  have HO := Lib.hid ho
  have HK := Lib.hid hk
  clear ho hk
  obtain ⟨m, hm⟩ : ∃ m, mostOf most = m := ⟨_, rfl⟩
  have CN := newAny most w
  have CM := fun W => refMost most W
  rw [hm] at CN
  simp only [hm] at CM
  have HCM := Lib.hid CM
  have HM := Lib.hid hm
  clear hm CM
  go_enter Try.func11, Try.ntmps11
  go_wp2_with fail
  refine CN.mono ?_
  clear CN
  rintro e w1 ⟨p, rfl, s1, b1⟩
  have HA1 := Lib.hid (At.new s1 b1)
  have C := mostAny s1
  clear s1 b1
  go_wp2_with fail
  refine C.mono ?_
  clear C
  rintro e w' ⟨rfl, rfl⟩
  go_wp2_with fail
  refine (HCM.out w1).mono ?_
  rintro e w' ⟨rfl, rfl⟩
  clear HCM
  have HS := Lib.hid (show DoesRel w p m len (.slice none 0 0) (.int .i64 0) w1 from ⟨0, _, [], none, 0, Nat.zero_le _, rfl, rfl, Nat.le_refl _, HA1.out, ⟨rfl, fun h => by simp at h⟩, fun _ h => by simp at h, fun _ h => by simp at h⟩)
  clear HA1
  go_wp2
  go_loopw [6, 7] (fun l i wr => DoesRel w p m len l i wr) (fun _ i _ => len - (intOf i).toNat)
  case atStart => exact HS.out
  case round =>
    obtain ⟨k, F, zs, al, cl, hk, rfl, rfl, hcl, ha, hbe⟩ := hrel
    have HA := Lib.hid ha
    have HBe := Lib.hid hbe
    clear HS ha hbe
    by_cases hlt : k < len
    · have hkl : k < os.length := by rw [HO.out.1]; exact hlt
      obtain ⟨b, off, rfl, bl, hc⟩ := HO.out.2 (by omega)
      obtain ⟨y0, y1⟩ := hc k hlt
      have hb : 0 ≤ (os.getD k (0, 0)).1 ∧ (os.getD k (0, 0)).1 ≤ 255 := by simpa [List.getD, hkl] using HK.out os[k] (List.getElem_mem hkl)
      have RD := ref5Do most (os.getD k (0, 0)).1 (os.getD k (0, 0)).2 HBe.out.1 hcl HA.out.1.len hb.1
      rw [HM.out] at RD
      have DD := Lib.hid (fun (W : World) (h : Rng W F p m zs) => doAny h (os.getD k (0, 0)).1 (os.getD k (0, 0)).2)
      have HY := Lib.hid (And.intro y0 y1)
      have i0 : (k : Int) < len := by omega
      clear hc hb hkl y0 y1
      generalize (os.getD k (0, 0)).1 = o1 at *
      generalize (os.getD k (0, 0)).2 = o2 at *
      generalize dqL m zs o1 o2 = zs2 at *
      generalize dqC m zs o1 = rc at *
      generalize dqV zs o1 = rv at *
      have y0 := (HA.out.2.1.cell (p := ⟨b, off + k * 2, none⟩) bl).trans HY.out.1
      have y1 := (HA.out.2.1.cell (p := ⟨b, off + k * 2 + 1, none⟩) bl).trans HY.out.2
      go_wp2_with fail
      refine RD.mono ?_
      clear RD
      rintro e w2 ⟨an, cn, rfl, r2, hc2, hor, b2⟩
      have HBe2 := Lib.hid (beside_next HA.out.lt HBe.out r2 hor b2)
      have HA2 := Lib.hid (HA.out.fresh b2)
      clear r2 hor b2 HA HBe y0 y1
      go_upto_region 9 with (fail)
      generalize hW : w2.alloc (.cells #[.int .u8 rc, .int .i32 rv] 31) = W
      have hb3 : Below w2.heap.size w2 W := by subst hW; exact (Below.refl _ _).alloc (Nat.le_refl _) _
      have HX3 := Lib.hid (show RBox W w2.heap.size rc rv by subst hW; exact RBox.new _ _ _)
      have HG3 := Lib.hid (show ¬ F w2.heap.size from fun e => by have := HA2.out.lt _ e; omega)
      have HA3 := Lib.hid (HA2.out.fresh hb3)
      have HBe3 := Lib.hid (HBe2.out.keep hb3)
      clear hW hb3 HA2 HBe2
      generalize w2.heap.size = g at *
      have g0 := (HA3.out.2.1.cell (p := ⟨b, off + k * 2, none⟩) bl).trans HY.out.1
      have g1 := (HA3.out.2.1.cell (p := ⟨b, off + k * 2 + 1, none⟩) bl).trans HY.out.2
      have g2 := HX3.out.c0
      have g3 := HX3.out.c1
      have CD := DD.out W.drew HA3.out.drew.1
      clear DD
      go_region_held3 (fun w' => w'.cell? ⟨b, off + k * 2, none⟩ = some (.int .u8 o1) ∧ w'.cell? ⟨b, off + k * 2 + 1, none⟩ = some (.int .i32 o2) ∧ w'.cell? ⟨g, 0, none⟩ = some (.int .u8 rc) ∧ w'.cell? ⟨g, 1, none⟩ = some (.int .i32 rv)) (first | exact ⟨g0, g1, g2, g3⟩ | exact ⟨h0, h1, h2, h3⟩ | exact ⟨i1, i2, i3, i4⟩ | exact ⟨j1, j2, j3, j4⟩) (first
        | (go_at_call 14; refine CD.mono ?_; rintro e w4 ⟨rfl, d4⟩; obtain ⟨F4, a4, wr4, l4⟩ := HA3.out.drew.next d4; have x4 := (show RBox W.drew g rc rv from HX3.out).off HG3.out wr4; have h0 := (a4.2.1.cell (p := ⟨b, off + k * 2, none⟩) bl).trans HY.out.1; have h1 := (a4.2.1.cell (p := ⟨b, off + k * 2 + 1, none⟩) bl).trans HY.out.2; have h2 := x4.c0; have h3 := x4.c1; have HBe4 := Lib.hid ((HBe3.out.keep (Below.refl _ W).drew).off wr4 l4); have CI := itemsAny a4.1; have HA4 := Lib.hid a4; have HX4 := Lib.hid x4; clear d4 a4 wr4 l4 x4)
        | (go_at_call 16; refine CI.mono ?_; rintro e w5 t5; have k5 := beside_told HA4.out.lt t5; have b5 := t5.2.2; obtain ⟨rfl, _, _⟩ := t5; have a5 := HA4.out.fresh b5; have x5 := HX4.out.keep b5; have i1 := (a5.2.1.cell (p := ⟨b, off + k * 2, none⟩) bl).trans HY.out.1; have i2 := (a5.2.1.cell (p := ⟨b, off + k * 2 + 1, none⟩) bl).trans HY.out.2; have i3 := x5.c0; have i4 := x5.c1; have HBe5 := Lib.hid (HBe4.out.keep b5); have CS := sameEq w5 _ _ zs2.length zs2.length cn zs2 k5.1 HBe5.out.1 a5.1.len; have HA5 := Lib.hid a5; have HX5 := Lib.hid x5; clear k5 b5 a5 x5)
        | (go_at_call 20; refine CS.mono ?_; rintro e w6 ⟨rfl, b6⟩; have a6 := HA5.out.fresh b6; have x6 := HX5.out.keep b6; have j1 := (a6.2.1.cell (p := ⟨b, off + k * 2, none⟩) bl).trans HY.out.1; have j2 := (a6.2.1.cell (p := ⟨b, off + k * 2 + 1, none⟩) bl).trans HY.out.2; have j3 := x6.c0; have j4 := x6.c1; have HBe6 := Lib.hid (HBe5.out.keep b6); have CT := lenAny a6.1; have HA6 := Lib.hid a6; clear b6 a6 x6)
        | (go_at_call 17; refine CT.mono ?_; rintro e w' ⟨rfl, rfl⟩))
      all_goals go_wp2
      go_roundw
      case rel => exact ⟨k + 1, _, zs2, an, cn, by omega, by go_num, rfl, hc2, HA6.out, HBe6.out⟩
      case measure => simp [intOf]; omega
    · clear HO HK HM
      have HB := Lib.hid HA.out.2.1
      clear HA HBe
      go_wp2
      go_ret
      exact ⟨rfl, HB.out⟩

set_option maxHeartbeats 3200000 in
theorem doesWalk {w : World} (most kk : Int) (ao : Option Addr) (lo co : Nat) (os : List (Int × Int)) (ac : Option Addr) (lc cc : Nat) (xs : List Int) (_ : -9223372036854775808 ≤ most) (_ : most ≤ 9223372036854775807) (k0 : 0 ≤ kk) (k1 : kk ≤ 255)
    (ho : ArgOps w ao lo co os) (hlo : lo ≤ 140737488351232) (hx : ArgBytes w ac lc cc xs) (hlc : lc ≤ 140737488351232) :
    Calls Try.prog 3 #[.int .i64 most, .int .u8 kk, .slice ao lo co, .slice ac lc cc] w fun e w' => e = .returned (.bool true) ∧ Below w.heap.size w w' := by
  have HO := Lib.hid ho
  have HX := Lib.hid hx
  clear ho hx
  by_cases h1 : 60 < lo
  · go_enter Try.func3, Try.ntmps3
    go_wp2_with (go_at_call 10; refine (known _).mono ?_; rintro e w1 ⟨rfl, b1⟩; have HB1 := Lib.hid b1; clear b1)
    go_ret
    exact ⟨rfl, HB1.out⟩
  · by_cases h2 : 100 < lc
    · go_enter Try.func3, Try.ntmps3
      go_wp2_with (go_at_call 10; refine (known _).mono ?_; rintro e w1 ⟨rfl, b1⟩; have HB1 := Lib.hid b1; clear b1)
      go_ret
      exact ⟨rfl, HB1.out⟩
    · go_enter Try.func3, Try.ntmps3
      go_wp2_with fail
      refine (known _).mono ?_
      rintro e w1 ⟨rfl, b1⟩
      have HB1 := Lib.hid b1
      clear b1
      go_wp2_with fail
      refine (doesTrue most ao lo co os (HO.out.1.keep HB1.out) (fun o ho => (HO.out.2.2.2 o ho).1) (by omega)).mono ?_
      rintro e w2 ⟨rfl, b2⟩
      have HB2 := Lib.hid (HB1.out.trans (b2.mono HB1.out.size))
      clear b2
      go_wp2_with fail
      refine (opsAny w2 ac lc cc xs 5 (HX.out.1.keep HB2.out) HX.out.2.2.2 (by omega) (by omega) (by omega)).mono ?_
      rintro e w3 ⟨oo, oc, rfl, o3, _, b3⟩
      have HB3 := Lib.hid (HB2.out.trans (b3.mono HB2.out.size))
      have C := doesTrue (kk % 6) oo _ oc _ o3 (fun o ho => (opsL_ok 5 xs HX.out.2.2.2 (by omega) (by omega) o ho).1) (by have := opsL_len 5 xs; omega)
      clear b3 o3
      generalize (opsL 5 xs).length = ol at *
      go_wp2_with fail
      refine C.mono ?_
      clear C
      rintro e w4 ⟨rfl, b4⟩
      have HB4 := Lib.hid (HB3.out.trans (b4.mono HB3.out.size))
      clear b4
      go_wp2_with fail
      refine (doesTrue (1 + kk % 3) ao lo co os (HO.out.1.keep HB4.out) (fun o ho => (HO.out.2.2.2 o ho).1) (by omega)).mono ?_
      rintro e w5 ⟨rfl, b5⟩
      have HB5 := Lib.hid (HB4.out.trans (b5.mono HB4.out.size))
      clear b5
      go_wp2
      go_ret
      exact ⟨rfl, HB5.out⟩

end Go.Proofs.Ythjcfeljbmehmaa
