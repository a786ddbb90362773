/-
  The function ObjectCopy returns true: a copy goes on as it was, with the same bits; without an object there is nothing. Conditions: two lists of bytes as they came in.
-/
import Derived.Test.YtniefplgijpckaaGreatKn12m
namespace Go.Proofs.YtniefplgijpckaaGreat
open Go.RowKit Go.Lib

theorem feedLit1 (w : World) (x : Int) : Reads .u8 (w.alloc (.cells #[.int .u8 x] 5)) (some ⟨w.heap.size, 0, none⟩) 1 [x] := lit1 w x .u8 5

section
variable {w a b : World} {F G H F' : Nat → Prop} {o q p : Nat} {k m : Int} {pl : Bool} {s t u s' : List It × List Bool}
/-- Three objects that know nothing of one another. -/
structure Three (w : World) (F G H : Nat → Prop) (o q p : Nat) (k m : Int) (pl : Bool) (s t u : List It × List Bool) (a : World) : Prop where
  c : OAt w F o k m pl s a
  d : OAt w G q k m pl t a
  e : OAt w H p k m pl u a
  cd : Apart F G
  ce : Apart F H
  de : Apart G H
theorem Three.fresh (h : Three w F G H o q p k m pl s t u a) (hb : Below a.heap.size a b) : Three w F G H o q p k m pl s t u b := ⟨h.c.fresh hb, h.d.fresh hb, h.e.fresh hb, h.cd, h.ce, h.de⟩
theorem Three.mk2 (h : Two w F G o q k m k m pl pl s t a) (x : OAt w H p k m pl u b) (hb : Below a.heap.size a b) (hH : ∀ g, H g → a.heap.size ≤ g) : Three w F G H o q p k m pl s t u b :=
  ⟨h.c.fresh hb, h.d.fresh hb, x, h.ap, fun g h1 h2 => by have := h.c.lt g h1; have := hH g h2; omega, fun g h1 h2 => by have := h.d.lt g h1; have := hH g h2; omega⟩
/-- The first one goes on; the two others stay. -/
theorem Three.rest (h : Three w F G H o q p k m pl s t u a) (wr : Wrote F a b) : Two w G H q p k m k m pl pl t u b := ⟨h.d.beside wr h.cd.symm h.c.2.2, h.e.beside wr h.ce.symm h.c.2.2, h.de⟩
end

set_option maxRecDepth 100000 in
set_option maxHeartbeats 32000000 in
theorem copyWalk {w : World} (kd mv : Int) (al : Option Addr) (nl cl : Nat) (xs : List Int) (dl : Option Addr) (nd cd : Nat) (ys : List Int) (k0 : 0 ≤ kd) (k1 : kd ≤ 255) (m0 : 0 ≤ mv) (m1 : mv ≤ 255) (hx : ArgBytes w al nl cl xs) (hnl : nl ≤ 140737488351232) (hy : ArgBytes w dl nd cd ys) (hnd : nd ≤ 140737488351232) :
    Calls Tryz.prog 6 #[.int .u8 kd, .int .u8 mv, .slice al nl cl, .slice dl nd cd] w fun e w' => e = .returned (.bool true) ∧ Below w.heap.size w w' := by
  have HX := Lib.hid hx
  have HY := Lib.hid hy
  have HNL := Lib.hid hnl
  have HND := Lib.hid hnd
  obtain ⟨r, hr⟩ : ∃ r, kd % 3 = r := ⟨_, rfl⟩
  obtain ⟨m, hm⟩ : ∃ m, mv % 12 = m := ⟨_, rfl⟩
  have hr0 : 0 ≤ r ∧ r ≤ 2 := by omega
  have hm0 : 0 ≤ m ∧ m ≤ 11 := by omega
  have hrm : kd.tmod 3 = r := by rw [Int.tmod_eq_emod_of_nonneg k0]; exact hr
  have hmm : mv.tmod 12 = m := by rw [Int.tmod_eq_emod_of_nonneg m0]; exact hm
  have hrw2 : IntKind.u8.wrap r = r := by rw [IntKind.wrap_u8]; omega
  have hrw : (1 + r) % 256 = 1 + r := by omega
  have hmw : IntKind.u8.wrap m = m := by rw [IntKind.wrap_u8]; omega
  have hmi : IntKind.i64.wrap m = m := by rw [IntKind.wrap_i64]; omega
  have hmo := Lib.hid (mostOf_self (1 + m) (by omega) (by omega))
  have HKD := Lib.hid (show 1 + r = 1 ∨ 1 + r = 2 ∨ 1 + r = 3 by omega)
  have hmj : IntKind.i64.wrap (1 + m) = 1 + m := by rw [IntKind.wrap_i64]; omega
  have hms : wrap64 (1 + m) = 1 + m := by unfold wrap64; omega
  clear hr hm hr0 k0 k1 m0 m1 hx hy
  by_cases hlen : 150 < nl + nd
  · have hgt : (150 : Int) < (nl : Int) + nd := by omega
    go_enter Tryz.func6, Tryz.ntmps6
    go_wp2_with fail
    refine (obNew (1 + r) (1 + m) false w HKD.out).mono ?_
    clear hrm hrw hrw2
    rintro e w1 hn
    obtain ⟨o, F, rfl, P1, b1, hF⟩ := OAt.new (Below.refl _ w) hn
    have HB1 := Lib.hid b1
    clear hn P1 b1 hF
    go_wp2_with fail
    refine (known w1).mono ?_
    rintro e w2 ⟨rfl, b2⟩
    have HB2 := Lib.hid (HB1.out.trans (b2.mono HB1.out.size))
    clear b2
    go_wp2
    go_ret
    exact ⟨rfl, HB2.out⟩
  · have hle : ¬ (150 : Int) < (nl : Int) + nd := by omega
    have HN150 := Lib.hid (show nl ≤ 150 ∧ nd ≤ 150 by omega)
    go_enter Tryz.func6, Tryz.ntmps6
    go_wp2_with fail
    refine (obNew (1 + r) (1 + m) false w HKD.out).mono ?_
    clear hrm hrw hrw2 hmm hmw hmi hmj hms
    rintro e w1 hn
    rw [hmo.out] at hn
    generalize 1 + r = k at *
    generalize 1 + m = mm at *
    clear hm0 hmo
    obtain ⟨o, F, rfl, P1, b1, hF⟩ := OAt.new (Below.refl _ w) hn
    have C := obFeed P1.1 al nl cl xs (HX.out.1.keep b1) HX.out.2.2.2 (P1.old (fun hp x hx => .inl (readsOld HX.out.1 hp x hx))) (Nat.le_trans HN150.out.1 (by decide))
    have HP1 := Lib.hid P1
    clear hn P1 b1 hF
    go_wp2_with fail
    refine C.mono ?_
    clear C
    rintro e w2 ⟨rfl, d2⟩
    obtain ⟨F2, P2, _, _⟩ := HP1.out.did d2
    have HP2 := Lib.hid P2
    clear d2 P2 HP1
    have C := opsAny w2 al nl cl xs 4 (HX.out.1.keep HP2.out.2.1) HX.out.2.2.2 HNL.out (by decide) (by decide)
    go_wp2_with fail
    refine C.mono ?_
    clear C
    rintro e w3 ⟨ap, cp, rfl, o3, hn3, b3⟩
    have P3 := HP2.out.fresh b3
    have C := obDo P3.1 ap cp o3 ((HP2.out.clearO o3 hn3).off) (opsL_ok 4 xs HX.out.2.2.2 (by decide) (by decide)) (Nat.le_trans (opsL_len 4 xs) (by decide))
    have HP3 := Lib.hid P3
    clear o3 hn3 b3 P3 HP2
    go_wp2_with fail
    refine C.mono ?_
    clear C
    rintro e w4 hp
    obtain ⟨g4, F4, rfl, _, _, P4, _, _, _⟩ := HP3.out.post hp
    obtain ⟨s, hs⟩ : ∃ s, objS k mm (([], feedL [] xs) : List It × List Bool) (opsL 4 xs) = s := ⟨_, rfl⟩
    have HP4 := Lib.hid (show OAt w F4 o k mm false s w4 from hs ▸ P4)
    clear hp P4 HP3 hs
    go_wp2_with fail
    refine (obCopy HP4.out.1).mono ?_
    rintro e w5 hn
    obtain ⟨p, G, rfl, P5, b5, hG⟩ := OAt.new HP4.out.2.1 hn
    have HT5 := Lib.hid (HP4.out.two P5 b5 hG)
    clear hn P5 b5 hG HP4
    go_wp2_with fail
    refine (obCopy HT5.out.c.1).mono ?_
    rintro e w6 hn
    obtain ⟨q, H, rfl, P6, b6, hH⟩ := OAt.new HT5.out.c.2.1 hn
    have HT6 := Lib.hid (Three.mk2 HT5.out P6 b6 hH)
    clear hn P6 b6 hH HT5
    go_wp2_with fail
    refine (obItems HT6.out.d.1).mono ?_
    rintro e w7 ⟨aw, cw, rfl, r7, _, hn7, b7⟩
    have HSL := Lib.hid (show (vals s.1).length ≤ 1000 by have := HT6.out.d.1.room; rw [vals_length]; omega)
    obtain ⟨L, hL⟩ : ∃ L, (vals s.1).length = L := ⟨_, rfl⟩
    have HL := Lib.hid hL
    rw [hL] at r7 HSL ⊢
    have HR7 := Lib.hid (And.intro r7 (HT6.out.c.clear r7 hn7))
    have HT7 := Lib.hid (HT6.out.fresh b7)
    clear r7 hn7 b7 HT6 hL
    have C := opsAny w7 dl nd cd ys 2 (HY.out.1.keep HT7.out.c.2.1) HY.out.2.2.2 HND.out (by decide) (by decide)
    go_wp2_with fail
    refine C.mono ?_
    clear C
    rintro e w8 ⟨ap8, cp8, rfl, o8, hn8, b8⟩
    have HT8 := Lib.hid (HT7.out.fresh b8)
    have C := obDo HT8.out.c.1 ap8 cp8 o8 ((HT7.out.c.clearO o8 hn8).off) (opsL_ok 2 ys HY.out.2.2.2 (by decide) (by decide)) (Nat.le_trans (opsL_len 2 ys) (by decide))
    have HR8 := Lib.hid (And.intro (HR7.out.1.keep b8) (HR7.out.2.fresh b8))
    clear o8 hn8 b8 HT7 HR7
    go_wp2_with fail
    refine C.mono ?_
    clear C
    rintro e w9 hp
    obtain ⟨g9, F9, rfl, _, _, _, _, wr9, l9⟩ := HT8.out.c.post hp
    have HT9 := Lib.hid (HT8.out.rest wr9)
    have HR9 := Lib.hid (HR8.out.2.reads HR8.out.1 wr9)
    clear hp wr9 l9 HT8 HR8
    go_wp2_with fail
    refine (obItems HT9.out.c.1).mono ?_
    rintro e w10 ⟨a10, c10, rfl, r10, _, _, b10⟩
    rw [HL.out] at r10 ⊢
    have C := sameEq w10 a10 aw L c10 cw _ r10 (HR9.out.keep b10) HSL.out
    have HT10 := Lib.hid (HT9.out.fresh b10)
    clear r10 b10 HT9 HR9
    go_wp2_with fail
    refine C.mono ?_
    clear C
    rintro e w11 ⟨rfl, b11⟩
    have HT11 := Lib.hid (HT10.out.fresh b11)
    clear b11 HT10
    have C := opsAny w11 dl nd cd ys 4 (HY.out.1.keep HT11.out.c.2.1) HY.out.2.2.2 HND.out (by decide) (by decide)
    go_wp2_with fail
    refine C.mono ?_
    clear C
    rintro e w12 ⟨ap12, cp12, rfl, o12, hn12, b12⟩
    have HT12 := Lib.hid (HT11.out.fresh b12)
    have C := obDo HT12.out.c.1 ap12 cp12 o12 ((HT11.out.c.clearO o12 hn12).off) (opsL_ok 4 ys HY.out.2.2.2 (by decide) (by decide)) (Nat.le_trans (opsL_len 4 ys) (by decide))
    clear o12 hn12 b12 HT11
    go_wp2_with fail
    refine C.mono ?_
    clear C
    rintro e w13 hp
    obtain ⟨g13, G13, rfl, rg13, hg13, P13, _, wr13, l13⟩ := HT12.out.c.post hp
    have HT13 := Lib.hid (HT12.out.nextC P13 wr13 l13)
    have HG13 := Lib.hid (And.intro rg13 (show ¬ H g13 from fun e => by have := HT12.out.d.lt _ e; omega))
    clear hp rg13 hg13 P13 wr13 l13 HT12
    have C := opsAny w13 dl nd cd ys 4 (HY.out.1.keep HT13.out.c.2.1) HY.out.2.2.2 HND.out (by decide) (by decide)
    go_wp2_with fail
    refine C.mono ?_
    clear C
    rintro e w14 ⟨ap14, cp14, rfl, o14, hn14, b14⟩
    have HT14 := Lib.hid (HT13.out.fresh b14)
    have C := obDo HT14.out.d.1 ap14 cp14 o14 ((HT13.out.d.clearO o14 hn14).off) (opsL_ok 4 ys HY.out.2.2.2 (by decide) (by decide)) (Nat.le_trans (opsL_len 4 ys) (by decide))
    have HG14 := Lib.hid (And.intro (HG13.out.1.below b14) HG13.out.2)
    clear o14 hn14 b14 HT13 HG13
    go_wp2_with fail
    refine C.mono ?_
    clear C
    rintro e w15 hp
    obtain ⟨g15, H15, rfl, rg15, hg15, P15, _, wr15, l15⟩ := HT14.out.d.post hp
    have HT15 := Lib.hid (HT14.out.nextD P15 wr15 l15)
    have HG15 := Lib.hid (And.intro (row_kept HG14.out.1 HG14.out.2 wr15) rg15)
    clear hp rg15 hg15 P15 wr15 l15 HT14 HG14
    obtain ⟨os, hos⟩ : ∃ os, opsL 4 ys = os := ⟨_, rfl⟩
    obtain ⟨s2, hs2⟩ : ∃ s2, objS k mm s os = s2 := ⟨_, rfl⟩
    have HOL := Lib.hid (show os.length ≤ 1000 by rw [← hos]; exact Nat.le_trans (opsL_len 4 ys) (by decide))
    rw [hos] at HG15 HT15 ⊢
    rw [hs2] at HT15
    clear hos hs2
    have hba : Below w15.heap.size w15 (w15.alloc (.cells #[.int .u8 1] 5)) := (Below.refl _ _).alloc (Nat.le_refl _) _
    have HT16 := Lib.hid (HT15.out.fresh hba)
    have HG16 := Lib.hid (And.intro (HG15.out.1.below hba) (HG15.out.2.below hba))
    clear hba HT15 HG15
    go_wp2_with fail
    refine (feedNone _ _).mono ?_
    rintro e w16 ⟨rfl, rfl⟩
    generalize w15.alloc (.cells #[.int .u8 1] 5) = W at *
    clear HN150 HX HY HNL HND hnl hnd hlen hle HL HSL
    go_wp2_with fail
    refine (known W).mono ?_
    rintro e w17 ⟨rfl, b17⟩
    have HT17 := Lib.hid (HT16.out.fresh b17)
    have r13 := (HG16.out.1.below b17).ops
    have r15 := (HG16.out.2.below b17).ops
    rw [batT_length] at r13 r15
    have C := toldEq w17 (some ⟨g13, 0, none⟩) (some ⟨g15, 0, none⟩) os.length os.length os.length _ r13 r15 HOL.out
    clear b17 r13 r15 HT16 HG16
    go_wp2_with fail
    refine C.mono ?_
    clear C
    rintro e w18 ⟨rfl, b18⟩
    have HT18 := Lib.hid (HT17.out.fresh b18)
    clear b18 HT17
    obtain ⟨zs, hzs⟩ : ∃ zs, (if k = 3 then lvlOf s2.1 2 else []) = zs := ⟨_, rfl⟩
    have HRM := Lib.hid HT18.out.c.1.room
    have HZL := Lib.hid (show zs.length ≤ 1000 by
      rw [← hzs]
      split
      · have h1 : (lvlOf s2.1 2).length ≤ s2.1.length := by unfold lvlOf; rw [List.length_map]; exact List.length_filter_le _ _
        have := HRM.out
        omega
      · simp)
    have C1 := obLevel HT18.out.c.1 2
    rw [hzs] at C1
    go_wp2_with fail
    refine C1.mono ?_
    clear C1
    rintro e w19 ⟨a19, c19, rfl, r19, _, _, b19⟩
    have HT19 := Lib.hid (HT18.out.fresh b19)
    have HR19 := Lib.hid r19
    have C2 := obLevel HT19.out.d.1 2
    rw [hzs] at C2
    clear r19 b19 HT18 hzs
    go_wp2_with fail
    refine C2.mono ?_
    clear C2
    rintro e w20 ⟨a20, c20, rfl, r20, _, _, b20⟩
    have HT20 := Lib.hid (HT19.out.fresh b20)
    have C := sameEq w20 a19 a20 zs.length c19 c20 _ (HR19.out.keep b20) r20 HZL.out
    clear r20 b20 HT19 HR19
    go_wp2_with fail
    refine C.mono ?_
    clear C
    rintro e w21 ⟨rfl, b21⟩
    have HT21 := Lib.hid (HT20.out.fresh b21)
    clear b21 HT20
    have HVL := Lib.hid (show (vals s2.1).length ≤ 1000 by have := HRM.out; rw [vals_length]; omega)
    go_wp2_with fail
    refine (obItems HT21.out.c.1).mono ?_
    rintro e w22 ⟨a22, c22, rfl, r22, _, _, b22⟩
    have HT22 := Lib.hid (HT21.out.fresh b22)
    have HR22 := Lib.hid r22
    clear r22 b22 HT21
    go_wp2_with fail
    refine (obItems HT22.out.d.1).mono ?_
    rintro e w23 ⟨a23, c23, rfl, r23, _, _, b23⟩
    have HT23 := Lib.hid (HT22.out.fresh b23)
    have C := sameEq w23 a22 a23 (vals s2.1).length c22 c23 _ (HR22.out.keep b23) r23 HVL.out
    clear r23 b23 HT22 HR22
    go_wp2_with fail
    refine C.mono ?_
    clear C
    rintro e w24 ⟨rfl, b24⟩
    have HB24 := Lib.hid (HT23.out.fresh b24).c.2.1
    clear b24 HT23
    go_wp2_with fail
    refine (doNone _ _).mono ?_
    rintro e w25 ⟨rfl, rfl⟩
    have HB25 := Lib.hid (HB24.out.alloc HB24.out.size (.cells #[.int .u8 1, .int .i32 0] 49))
    generalize w24.alloc (.cells #[.int .u8 1, .int .i32 0] 49) = V at *
    go_wp2_with fail
    refine (lenNone V).mono ?_
    rintro e w26 ⟨rfl, rfl⟩
    go_wp2_with fail
    refine (itemsNone V).mono ?_
    rintro e w26 ⟨rfl, rfl⟩
    go_wp2_with fail
    refine (levelNone V 1).mono ?_
    rintro e w26 ⟨rfl, rfl⟩
    go_wp2_with fail
    refine (copyNone V).mono ?_
    rintro e w26 ⟨rfl, rfl⟩
    go_wp2
    go_ret
    exact ⟨rfl, HB25.out⟩

end Go.Proofs.YtniefplgijpckaaGreat
