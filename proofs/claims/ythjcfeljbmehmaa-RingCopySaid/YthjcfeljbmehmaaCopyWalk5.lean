/-
  The walk of RingCopy: for all numbers and bytes it answers true and leaves all old memory as it was.
-/
import Derived.Test.YthjcfeljbmehmaaTurnsWalk
namespace Go.Proofs.Ythjcfeljbmehmaa
open Go.RowKit

/-- Three deques that know nothing of one another. -/
structure Three (w : World) (Fs Ft Fu : Nat → Prop) (p q r : Nat) (n : Int) (zs zt zu : List Int) (a : World) : Prop where
  s : At w Fs p n zs a
  t : At w Ft q n zt a
  u : At w Fu r n zu a
  st : Apart Fs Ft
  su : Apart Fs Fu
  tu : Apart Ft Fu

section
variable {w a b : World} {Fs Ft Fu : Nat → Prop} {p q r : Nat} {n : Int} {zs zt zu zs' : List Int}
theorem Three.fresh (h : Three w Fs Ft Fu p q r n zs zt zu a) (hb : Below a.heap.size a b) : Three w Fs Ft Fu p q r n zs zt zu b := ⟨h.s.fresh hb, h.t.fresh hb, h.u.fresh hb, h.st, h.su, h.tu⟩
theorem Three.nextS (h : Three w Fs Ft Fu p q r n zs zt zu a) (d : Did Fs p n zs' a b) : ∃ F, Three w F Ft Fu p q r n zs' zt zu b ∧ Wrote Fs a b ∧ Later Fs F a := by
  obtain ⟨F, k, wr, l⟩ := h.s.next d
  exact ⟨F, ⟨k, ⟨h.t.1.apart wr h.st.symm, k.2.1, h.t.2.2⟩, ⟨h.u.1.apart wr h.su.symm, k.2.1, h.u.2.2⟩, l.apart h.st h.t.lt, l.apart h.su h.u.lt, h.tu⟩, wr, l⟩
theorem Three.nextT (h : Three w Fs Ft Fu p q r n zs zt zu a) (d : Did Ft q n zs' a b) : ∃ F, Three w Fs F Fu p q r n zs zs' zu b := by
  obtain ⟨F, k, wr, l⟩ := h.t.next d
  exact ⟨F, ⟨⟨h.s.1.apart wr h.st, k.2.1, h.s.2.2⟩, k, ⟨h.u.1.apart wr h.tu.symm, k.2.1, h.u.2.2⟩, (l.apart h.st.symm h.s.lt).symm, h.su, l.apart h.tu h.u.lt⟩⟩
theorem Three.nextU (h : Three w Fs Ft Fu p q r n zs zt zu a) (d : Did Fu r n zs' a b) : ∃ F, Three w Fs Ft F p q r n zs zt zs' b := by
  obtain ⟨F, k, wr, l⟩ := h.u.next d
  exact ⟨F, ⟨⟨h.s.1.apart wr h.su, k.2.1, h.s.2.2⟩, ⟨h.t.1.apart wr h.tu, k.2.1, h.t.2.2⟩, k, h.st, (l.apart h.su.symm h.s.lt).symm, (l.apart h.tu.symm h.t.lt).symm⟩⟩
/-- What is written to a block that is none of theirs. -/
theorem Three.block (h : Three w Fs Ft Fu p q r n zs zt zu a) {B : Nat} (hB : w.heap.size ≤ B) (hn : ∀ g, Fs g ∨ Ft g ∨ Fu g → g ≠ B) (wr : Wrote (fun g => g = B) a b) : Three w Fs Ft Fu p q r n zs zt zu b := by
  have hb : Below w.heap.size w b := h.s.2.1.trans (wr.below h.s.2.1.size (fun g e => by omega))
  exact ⟨⟨h.s.1.apart wr (fun g h1 h2 => hn g (.inl h1) h2), hb, h.s.2.2⟩, ⟨h.t.1.apart wr (fun g h1 h2 => hn g (.inr (.inl h1)) h2), hb, h.t.2.2⟩, ⟨h.u.1.apart wr (fun g h1 h2 => hn g (.inr (.inr h1)) h2), hb, h.u.2.2⟩, h.st, h.su, h.tu⟩
theorem At.copied {F : Nat → Prop} (h : At w F p n zs a) (s : Rng b (New a b) q n zs) (hb : Below a.heap.size a b) : At w (New a b) q n zs b ∧ Apart F (New a b) :=
  ⟨⟨s, h.2.1.trans (hb.mono h.2.1.size), fun _ hg => Nat.le_trans h.2.1.size hg.1⟩, New.apart h.lt⟩
end

/-- What holds while a list that was told is written to. -/
def LRel (a : World) (B m : Nat) (i : Value) (wr : World) : Prop :=
  ∃ (k : Nat) (ys : List Int), k ≤ m ∧ i = .int .i64 k ∧ wr.ownsRow 0 21 1 (.slice (some ⟨B, 0, none⟩) m m) m (ys.map (Value.int .i32)) ∧ Wrote (fun g => g = B) a wr
theorem LRel.next {a wr : World} {B m k : Nat} {ys : List Int} (hk : k < m) (ho : wr.ownsRow 0 21 1 (.slice (some ⟨B, 0, none⟩) m m) m (ys.map (Value.int .i32))) (hw : Wrote (fun g => g = B) a wr) (E : Int) :
    LRel a B m (.int .i64 ((k : Int) + 1)) (wr.setCell ⟨B, k, none⟩ (.int .i32 E)) := by
  refine ⟨k + 1, ys.set k E, by omega, by go_num, ?_, hw.setCell (.inr rfl) _⟩
  have hs := (ho.stored k (.int .i32 E)).1
  simpa [List.map_set] using hs

set_option maxRecDepth 100000 in
set_option maxHeartbeats 16000000 in
theorem copyWalk {w : World} (most : Int) (aa : Option Addr) (la ca : Nat) (xa : List Int) (ab : Option Addr) (lb cb : Nat) (xb : List Int) (ac : Option Addr) (lc cc : Nat) (xc : List Int) (m0 : 0 ≤ most) (m1 : most ≤ 255)
    (ha : ArgBytes w aa la ca xa) (hla : la ≤ 140737488351232) (hb : ArgBytes w ab lb cb xb) (hlb : lb ≤ 140737488351232) (hc : ArgBytes w ac lc cc xc) (hlc : lc ≤ 140737488351232) :
    Calls Try.prog 6 #[.int .u8 most, .slice aa la ca, .slice ab lb cb, .slice ac lc cc] w fun e w' => e = .returned (.bool true) ∧ Below w.heap.size w w' := by
  obtain ⟨n, hn⟩ : ∃ n : Nat, (n : Int) = most % 9 := ⟨(most % 9).toNat, by omega⟩
  have hn9 : n < 9 := by omega
  have HN := Lib.hid hn
  have HXA := Lib.hid ha.1
  have HYA := Lib.hid ha.2.2.2
  have HXB := Lib.hid hb.1
  have HYB := Lib.hid hb.2.2.2
  have HXC := Lib.hid hc.1
  have HYC := Lib.hid hc.2.2.2
  clear hn ha hb hc
  go_enter Try.func6, Try.ntmps6
  go_wp2_with fail
  rw [← HN.out]
  clear HN m0 m1
  refine (newAny n w).mono ?_
  rintro e w1 ⟨p, rfl, s1, b1⟩
  rw [mostOf_self n (by omega) (by omega)] at s1
  have HA1 := Lib.hid (At.new s1 b1)
  clear s1 b1
  by_cases hl : 150 < la + lb + lc
  · have hl2 : (150 : Int) < (la : Int) + (lb : Int) + (lc : Int) := by omega
    go_wp2_with (go_at_call 10; refine (known _).mono ?_; rintro e w2 ⟨rfl, b2⟩; have HB2 := Lib.hid (HA1.out.fresh b2).2.1; clear b2)
    go_ret
    exact ⟨rfl, HB2.out⟩
  · have hl2 : ¬ (150 : Int) < (la : Int) + (lb : Int) + (lc : Int) := by omega
    have la2 : la ≤ 150 := by omega
    have lb2 : lb ≤ 150 := by omega
    have lc2 : lc ≤ 150 := by omega
    clear hla hlb hlc
    have C := opsAny w1 aa la ca xa 4 (HXA.out.keep HA1.out.2.1) HYA.out (by omega) (by omega) (by omega)
    go_wp2_with fail
    clear hl hl2
    refine C.mono ?_
    clear C
    rintro e w2 ⟨oo, oc, rfl, o2, of2, b2⟩
    have HA2 := Lib.hid (HA1.out.fresh b2)
    have C := runAny HA2.out.1 oo _ oc _ o2 (off_new HA1.out.lt of2) (fun o ho => (opsL_ok 4 xa HYA.out (by omega) (by omega) o ho).1) (by have := opsL_len 4 xa; omega)
    clear o2 of2 b2 HA1 HXA HYA
    generalize runL n [] (opsL 4 xa) = zs at *
    generalize (opsL 4 xa).length = ol at *
    go_wp2_with fail
    refine C.mono ?_
    clear C
    rintro e w3 ⟨rfl, d3⟩
    obtain ⟨F3, a3, _, _⟩ := HA2.out.next d3
    have HA3 := Lib.hid a3
    clear d3 a3 HA2
    have C := copyAny HA3.out.1
    go_wp2_with fail
    refine C.mono ?_
    clear C
    rintro e w4 ⟨q, rfl, s4, b4⟩
    obtain ⟨t4, ap4⟩ := HA3.out.copied s4 b4
    have HA4 := Lib.hid (HA3.out.fresh b4)
    have HT4 := Lib.hid t4
    have HP4 := Lib.hid ap4
    clear s4 b4 t4 ap4 HA3
    generalize New w3 w4 = Ft at *
    have C := copyAny HA4.out.1
    go_wp2_with fail
    refine C.mono ?_
    clear C
    rintro e w5 ⟨r, rfl, s5, b5⟩
    obtain ⟨u5, ap5⟩ := HA4.out.copied s5 b5
    have H5 := Lib.hid (show Three w F3 Ft (New w4 w5) p q r n zs zs zs w5 from ⟨HA4.out.fresh b5, HT4.out.fresh b5, u5, HP4.out, ap5, New.apart HT4.out.lt⟩)
    clear s5 b5 u5 ap5 HA4 HT4 HP4
    generalize New w4 w5 = Fu at *
    obtain ⟨m, hm⟩ : ∃ m, zs.length = m := ⟨_, rfl⟩
    have hr : (m : Int) ≤ n := by have := H5.out.s.1.room; omega
    have HM := Lib.hid hm
    clear hm
    have C := itemsBeside H5.out.t.1 m HM.out
    go_wp2_with fail
    refine C.mono ?_
    clear C
    rintro e w6 ⟨rfl, k6, b6⟩
    have HK6 := Lib.hid (show Beside F3 w6 (some ⟨w5.heap.size, 0, none⟩) m zs from ⟨k6.1, off_new H5.out.s.lt (fun a ha => by injection ha with ha; subst ha; exact Nat.le_refl _), k6.2.2⟩)
    have H6 := Lib.hid (H5.out.fresh b6)
    have HZ6 := Lib.hid (show w5.heap.size < w6.heap.size from k6.2.2 _ rfl)
    clear k6 b6 H5
    have C := itemsAny H6.out.s.1
    go_wp2_with fail
    refine C.mono ?_
    clear C
    rintro e w7 ⟨rfl, o7, b7⟩
    rw [HM.out] at o7 ⊢
    have HK7 := Lib.hid (HK6.out.keep b7)
    have H7 := Lib.hid (H6.out.fresh b7)
    have HB7 := Lib.hid (show ∀ g, F3 g ∨ Ft g ∨ Fu g → g ≠ w6.heap.size from fun g hg e => by
      rcases hg with h | h | h
      · have := H6.out.s.lt g h; omega
      · have := H6.out.t.lt g h; omega
      · have := H6.out.u.lt g h; omega)
    have HL7 := Lib.hid (show w.heap.size ≤ w6.heap.size from H6.out.s.2.1.size)
    have HS := Lib.hid (show LRel w7 w6.heap.size m (.int .i64 0) w7 from ⟨0, zs, Nat.zero_le _, rfl, by
      refine ⟨o7.1, ?_⟩
      rcases o7.2 with hn | ⟨g, cap, cur, e, _, r⟩
      · exact .inl hn
      · exact .inr ⟨g, cap, cur, e, Nat.zero_le _, r⟩, Wrote.refl _ _⟩)
    have HZ7 := Lib.hid (show ¬ w5.heap.size = w6.heap.size from by have := HZ6.out; omega)
    clear o7 b7 H6 HK6 HZ6
    generalize w5.heap.size = K at *
    generalize w6.heap.size = B at *
    go_wp2
    go_loopw [14] (fun i wr => LRel w7 B m i wr) (fun i _ => m - (intOf i).toNat)
    case atStart => exact HS.out
    case round =>
      obtain ⟨k, ys, hk, rfl, hown, hwr⟩ := hrel
      have HO := Lib.hid hown
      have HW := Lib.hid hwr
      clear hown hwr HS
      by_cases hlt : k < m
      · have c := HO.out.cellAt k (by omega)
        have f := HO.out.frozenAt k
        have hyl : ys.length = m := by have := HO.out.1; simpa using this
        rw [show (ys.map (Value.int .i32))[k]? = some (.int .i32 (ys.getD k 0)) by simp [List.getD, show k < ys.length by omega]] at c
        have H3 := Lib.hid (LRel.next hlt HO.out HW.out)
        clear hyl
        generalize ys.getD k 0 = y at *
        have i0 : (k : Int) < m := by omega
        go_wp2
        go_roundw
        case rel => exact H3.out _
        case measure => simp [intOf]; omega
      · have H8 := Lib.hid (H7.out.block HL7.out HB7.out HW.out)
        have HK8 := Lib.hid (show Beside F3 wr (some ⟨K, 0, none⟩) m zs from ⟨HK7.out.1.off (F := fun g => g = B) (fun a ha => by injection ha with ha; subst ha; exact HZ7.out) HW.out, HK7.out.2.1, fun x hx => Nat.lt_of_lt_of_le (HK7.out.2.2 x hx) HW.out.size⟩)
        clear HO HW H7 HK7 HB7 HL7 HZ7
        have C := opsAny wr ab lb cb xb 4 (HXB.out.keep H8.out.s.2.1) HYB.out (by omega) (by omega) (by omega)
        go_wp2_with fail
        refine C.mono ?_
        clear C
        rintro e w9 ⟨oo, oc, rfl, o9, of9, b9⟩
        have H9 := Lib.hid (H8.out.fresh b9)
        have HK9 := Lib.hid (HK8.out.keep b9)
        have C := runAny H9.out.s.1 oo _ oc _ o9 (off_new H8.out.s.lt of9) (fun o ho => (opsL_ok 4 xb HYB.out (by omega) (by omega) o ho).1) (by have := opsL_len 4 xb; omega)
        clear o9 of9 b9 H8 HK8 HXB HYB
        generalize runL n zs (opsL 4 xb) = zs2 at *
        generalize (opsL 4 xb).length = ol at *
        go_wp2_with fail
        refine C.mono ?_
        clear C
        rintro e w10 ⟨rfl, d10⟩
        obtain ⟨F10, h10, wr10, l10⟩ := H9.out.nextS d10
        have H10 := Lib.hid h10
        have HK10 := Lib.hid (HK9.out.off wr10 l10)
        clear d10 h10 wr10 l10 H9 HK9
        have C := itemsBeside H10.out.t.1 m HM.out
        go_wp2_with fail
        refine C.mono ?_
        clear C
        rintro e w11 ⟨rfl, k11, b11⟩
        have C := sameEq w11 _ _ m m m zs k11.1 (HK10.out.keep b11).1 (by omega)
        have H11 := Lib.hid (H10.out.fresh b11)
        clear k11 b11 H10 HK10
        go_wp2_with fail
        refine C.mono ?_
        clear C
        rintro e w12 ⟨rfl, b12⟩
        have H12 := Lib.hid (H11.out.fresh b12)
        clear b12 H11
        have C := mostAny H12.out.t.1
        have D := mostAny H12.out.s.1
        go_wp2_with fail
        refine C.mono ?_
        clear C
        rintro e w' ⟨rfl, rfl⟩
        go_wp2_with fail
        refine D.mono ?_
        clear D
        rintro e w' ⟨rfl, rfl⟩
        have C := opsAny w12 ac lc cc xc 4 (HXC.out.keep H12.out.s.2.1) HYC.out (by omega) (by omega) (by omega)
        go_wp2_with fail
        refine C.mono ?_
        clear C
        rintro e w13 ⟨oo, oc, rfl, o13, of13, b13⟩
        have H13 := Lib.hid (H12.out.fresh b13)
        have C := runAny H13.out.t.1 oo _ oc _ o13 (off_new H12.out.t.lt of13) (fun o ho => (opsL_ok 4 xc HYC.out (by omega) (by omega) o ho).1) (by have := opsL_len 4 xc; omega)
        clear o13 of13 b13 H12
        generalize (opsL 4 xc).length = ol at *
        go_wp2_with fail
        refine C.mono ?_
        clear C
        rintro e w14 ⟨rfl, d14⟩
        obtain ⟨F14, h14⟩ := H13.out.nextT d14
        have H14 := Lib.hid h14
        clear d14 h14 H13
        have C := opsAny w14 ac lc cc xc 4 (HXC.out.keep H14.out.s.2.1) HYC.out (by omega) (by omega) (by omega)
        go_wp2_with fail
        refine C.mono ?_
        clear C
        rintro e w15 ⟨oo, oc, rfl, o15, of15, b15⟩
        have H15 := Lib.hid (H14.out.fresh b15)
        have C := runAny H15.out.u.1 oo _ oc _ o15 (off_new H14.out.u.lt of15) (fun o ho => (opsL_ok 4 xc HYC.out (by omega) (by omega) o ho).1) (by have := opsL_len 4 xc; omega)
        clear o15 of15 b15 H14
        generalize (opsL 4 xc).length = ol2 at *
        generalize runL n zs (opsL 4 xc) = zt at *
        go_wp2_with fail
        refine C.mono ?_
        clear C
        rintro e w16 ⟨rfl, d16⟩
        obtain ⟨F16, h16⟩ := H15.out.nextU d16
        have H16 := Lib.hid h16
        clear d16 h16 H15
        go_wp2_with fail
        refine (popLNil w16).mono ?_
        rintro e w' ⟨rfl, rfl⟩
        go_wp2_with fail
        refine (popRNil w16).mono ?_
        rintro e w' ⟨rfl, rfl⟩
        go_wp2_with fail
        refine (known w16).mono ?_
        rintro e w17 ⟨rfl, b17⟩
        have H17 := Lib.hid (H16.out.fresh b17)
        clear b17 H16
        obtain ⟨j, hj⟩ : ∃ j, zt.length = j := ⟨_, rfl⟩
        have hjr : (j : Int) ≤ n := by have := H17.out.t.1.room; omega
        have HJ := Lib.hid hj
        clear hj
        have C := itemsBeside H17.out.t.1 j HJ.out
        go_wp2_with fail
        refine C.mono ?_
        clear C
        rintro e w18 ⟨rfl, k18, b18⟩
        have H18 := Lib.hid (H17.out.fresh b18)
        have HK18 := Lib.hid k18
        clear k18 b18 H17
        have C := itemsBeside H18.out.u.1 j HJ.out
        go_wp2_with fail
        refine C.mono ?_
        clear C
        rintro e w19 ⟨rfl, k19, b19⟩
        have C := sameEq w19 _ _ j j j zt (HK18.out.keep b19).1 k19.1 (by omega)
        have H19 := Lib.hid (H18.out.fresh b19)
        clear k19 b19 H18 HK18
        go_wp2_with fail
        refine C.mono ?_
        clear C
        rintro e w20 ⟨rfl, b20⟩
        have HB20 := Lib.hid (H19.out.fresh b20).s.2.1
        clear b20 H19
        go_wp2_with fail
        refine (pushLNil w20 1).mono ?_
        rintro e w' ⟨rfl, rfl⟩
        go_wp2_with fail
        refine (pushRNil w20 1).mono ?_
        rintro e w' ⟨rfl, rfl⟩
        go_wp2_with fail
        refine (lenNil w20).mono ?_
        rintro e w' ⟨rfl, rfl⟩
        go_wp2_with fail
        refine (mostNil w20).mono ?_
        rintro e w' ⟨rfl, rfl⟩
        go_wp2_with fail
        refine (itemsNil w20).mono ?_
        rintro e w' ⟨rfl, rfl⟩
        go_wp2_with fail
        refine (copyNil w20).mono ?_
        rintro e w21 ⟨qn, rfl, s21, b21⟩
        have C := mostAny s21
        have HB21 := Lib.hid (HB20.out.trans (b21.mono HB20.out.size))
        clear s21 b21 HB20
        go_wp2_with fail
        refine C.mono ?_
        clear C
        rintro e w' ⟨rfl, rfl⟩
        go_wp2
        go_ret
        exact ⟨rfl, HB21.out⟩

end Go.Proofs.Ythjcfeljbmehmaa
