/-
  The function SortedOne returns true: a batch of one operation is that operation; one of none is nothing. Conditions: a list of bytes as it came in.
-/
import Derived.Test.YtmkpmnmllgdppaaKnA11
namespace Go.Proofs.Ytmkpmnmllgdppaa
open Go.RowKit Go.Lib

/-- In the midst of it: the list, the coin, the box of the operation. -/
def OneAt (w : World) (p q : Nat) (n hv : Int) (xs : List Int) (kd kv : Int) (k : Nat) (wr : World) : Prop :=
  ∃ F G, PrAt w F G (some p) q n (fillI n hv xs k, []) wr ∧ OBox wr w.heap.size kd kv ∧ Asd F G wr w.heap.size

theorem OneAt.next {w wr w1 : World} {p q : Nat} {n hv : Int} {xs : List Int} {kd kv : Int} {k : Nat} {F G : Nat → Prop} (h : PrAt w F G (some p) q n (fillI n hv xs k, []) wr) (hb : OBox wr w.heap.size kd kv) (ha : Asd F G wr w.heap.size)
    (d : DidS F p n (insL n (fillI n hv xs k) ⟨xs.getD k 0, hOf hv⟩) wr w1) : OneAt w p q n hv xs kd kv (k + 1) w1 := by
  obtain ⟨F', h1, l1, wr1⟩ := h.list d
  exact ⟨F', G, h1, hb.off (F := F) ha.nF wr1, ha.next l1 (Later.refl _ _) wr1.size⟩

set_option maxRecDepth 100000 in
set_option maxHeartbeats 16000000 in
theorem oneWalk {w : World} (x : Int) (al : Option Addr) (nl cl : Nat) (xs : List Int) (kd kv : Int) (y : Int) (x0 : 0 ≤ x) (x1 : x ≤ 255) (hx : ArgBytes w al nl cl xs) (hnl : nl ≤ 140737488351232) (ho : OpOk (kd, kv)) (y0 : 0 ≤ y) (y1 : y ≤ 255) :
    Calls Try.prog 8 #[.int .u8 x, .slice al nl cl, .agg #[.int .u8 kd, .int .i32 kv], .int .u8 y] w fun e w' => e = .returned (.bool true) ∧ Below w.heap.size w w' := by
  have HX := Lib.hid hx
  have HO := Lib.hid ho
  clear hx ho
  obtain ⟨n, hn⟩ : ∃ n, x % 15 = n := ⟨_, rfl⟩
  have hn0 : 0 ≤ n ∧ n ≤ 14 := by omega
  have hmo := mostOf_self n hn0.1 (by omega)
  have hm : x.tmod 15 = n := by rw [Int.tmod_eq_emod_of_nonneg x0]; exact hn
  clear hn
  by_cases h1 : 60 < (nl : Int)
  · go_enter Try.func8, Try.ntmps8
    go_upto_region 2 with (fail)
    have hb0 : Below w.heap.size w (w.alloc (.cells #[.int .u8 kd, .int .i32 kv] 38)) := (Below.refl _ _).alloc (Nat.le_refl _) _
    have HB0 := Lib.hid hb0
    generalize w.alloc (.cells #[.int .u8 kd, .int .i32 kv] 38) = w0 at *
    go_wp2_with fail
    refine (newS _ w0).mono ?_
    rintro e w1 ⟨rfl, s1, bl1⟩
    have HB1 := Lib.hid (HB0.out.trans (bl1.mono HB0.out.size))
    clear s1 bl1
    go_wp2_with fail
    refine (newC w1).mono ?_
    rintro e w2 ⟨rfl, c2, bl2⟩
    have HB2 := Lib.hid (HB1.out.trans (bl2.mono HB1.out.size))
    clear c2 bl2
    go_wp2_with fail
    refine (known w2).mono ?_
    rintro e w3 ⟨rfl, b3⟩
    have HB3 := Lib.hid (HB2.out.trans (b3.mono HB2.out.size))
    clear b3
    go_wp2
    go_ret
    exact ⟨rfl, HB3.out⟩
  · obtain ⟨z, hz⟩ : ∃ z, y % 8 = z := ⟨_, rfl⟩
    have hz0 : 0 ≤ z ∧ z ≤ 7 := by omega
    have hy : y.tmod 8 = z := by rw [Int.tmod_eq_emod_of_nonneg y0]; exact hz
    clear hz
    obtain ⟨r, hr⟩ : ∃ r, kd % 3 = r := ⟨_, rfl⟩
    have hkd := HO.out.1
    have hr0 : 0 ≤ r ∧ r ≤ 2 := by omega
    have hrm : kd.tmod 3 = r := by rw [Int.tmod_eq_emod_of_nonneg hkd.1]; exact hr
    have hrw : IntKind.u8.wrap (1 + r) = 1 + r := by rw [IntKind.wrap_u8]; omega
    have hrw2 : IntKind.u8.wrap r = r := by rw [IntKind.wrap_u8]; omega
    clear hr
    have hnl2 : nl ≤ 60 := by omega
    go_enter Try.func8, Try.ntmps8
    go_upto_region 2 with (fail)
    have hb0 : Below w.heap.size w (w.alloc (.cells #[.int .u8 kd, .int .i32 kv] 38)) := (Below.refl _ _).alloc (Nat.le_refl _) _
    have HB0 := Lib.hid hb0
    have HBX := Lib.hid (OBox.new w kd kv)
    have HSZ := Lib.hid (show w.heap.size < (w.alloc (.cells #[.int .u8 kd, .int .i32 kv] 38)).heap.size by simp)
    clear hb0
    generalize w.alloc (.cells #[.int .u8 kd, .int .i32 kv] 38) = w0 at *
    go_wp2_with fail
    refine (newS _ w0).mono ?_
    rintro e w1 ⟨rfl, s1, bl1⟩
    rw [hmo] at s1
    go_wp2_with fail
    refine (newC w1).mono ?_
    rintro e w2 ⟨rfl, c2, bl2⟩
    have P2 := PrAt.start s1 bl1 c2 bl2
    have HS := Lib.hid (show OneAt w w0.heap.size w1.heap.size n (1 + z) xs kd kv 0 w2 from ⟨_, _, P2.base HB0.out, HBX.out.keep P2.b, P2.ahead HSZ.out⟩)
    have HSP := Lib.hid (And.intro HSZ.out (show w0.heap.size ≤ w1.heap.size from bl1.size))
    clear P2 s1 c2 bl1 bl2
    generalize hp : w0.heap.size = p at *
    generalize w1.heap.size = q at *
    clear hp
    go_wp2_with fail
    go_loopw [12] (fun i wr => ∃ k : Nat, k ≤ nl ∧ i = .int .i64 k ∧ OneAt w p q n (1 + z) xs kd kv k wr) (fun i _ => nl - (intOf i).toNat)
    case atStart => exact ⟨0, Nat.zero_le _, rfl, HS.out⟩
    case round =>
      obtain ⟨k, hk, rfl, F, G, hP, hB, hA⟩ := hrel
      clear HS
      by_cases hlt : k < nl
      · obtain ⟨b, off, rfl, bl, hc⟩ := (HX.out.1.keep hP.b).2 (by omega)
        have c := hc k hlt
        have hb := byte_at HX.out.2.2.2 k
        obtain ⟨xk, hxk⟩ : ∃ xk, xs.getD k 0 = xk := ⟨_, rfl⟩
        have C := insertS hP.sk.2 xk (1 + z)
        have HN := Lib.hid (fun (w1 : World) (d : DidS F p n (insL n (fillI n (1 + z) xs k) ⟨xs.getD k 0, hOf (1 + z)⟩) wr w1) => OneAt.next hP hB hA d)
        rw [hxk] at c hb HN
        have HC := Lib.hid C
        have e1 : IntKind.i32.wrap xk = xk := by rw [IntKind.wrap_i32]; omega
        have i1 : (k : Int) < nl := by omega
        clear hc hxk C hP hB hA
        go_wp2_with fail
        refine HC.out.mono ?_
        rintro e w3 ⟨rfl, d⟩
        have HN3 := Lib.hid (HN.out w3 d)
        clear d HC HN c
        go_wp2
        go_roundw
        case rel => exact ⟨k + 1, by omega, by go_num, HN3.out⟩
        case measure => simp [intOf]; omega
      · obtain rfl : nl = k := by omega
        clear hlt
        have hq := eqSelf
        obtain ⟨lk, hlk⟩ : ∃ lk, fillI n (1 + z) xs nl = lk := ⟨_, rfl⟩
        rw [hlk] at hP
        clear hlk
        have hLn := hP.sk.room
        have C := itemsR hP.sk.2
        have HP := Lib.hid hP
        have HBo := Lib.hid (And.intro hB hA)
        clear hP hB hA
        go_wp2_with fail
        refine C.mono ?_
        clear C
        rintro e w3 ⟨ao, cap, rfl, r3, hcap, hao, b3⟩
        have P3 := HP.out.fresh b3
        have HR3 := Lib.hid (RAs.start HP.out r3 hao)
        have HNE := Lib.hid (show ∀ y, ao = some y → y.block ≠ w.heap.size from fun y hy => by have := hao y hy; have := HBo.out.2.lt; omega)
        have HB3 := Lib.hid (And.intro (HBo.out.1.keep b3) (HBo.out.2.later b3.size))
        have C := applyAny P3.sk P3.co P3.ap none 0 0 [] ⟨rfl, fun h => by omega⟩ (fun h => by omega) (fun h => by omega) (by omega)
        have HP3 := Lib.hid P3
        clear P3 r3 hao b3 HP HBo
        rw [show (lk.map It.v).length = lk.length by simp] at *
        go_wp2_with fail
        refine C.mono ?_
        clear C
        rintro e w4 hp
        obtain ⟨g1, F4, G4, rfl, _, _, P4, _, _, wr4, lF4, lG4⟩ := HP3.out.post hp
        have HR4 := Lib.hid (HR3.out.next wr4 lF4 lG4)
        have hb4 := HB3.out.1.lt
        have HB4 := Lib.hid (And.intro (show OBox w4 w.heap.size kd kv from (HB3.out.2.block wr4).trans HB3.out.1) (HB3.out.2.next (b := w4) lF4 lG4 wr4.size))
        have HP4 := Lib.hid (show PrAt w F4 G4 (some p) q n (lk, []) w4 from P4)
        clear hp P4 wr4 lF4 lG4 HR3 HB3 HP3 hb4
        have c0 := HB4.out.1.c0
        have f0 := HB4.out.1.f
        go_upto_region 13 with (fail)
        have HB5 := Lib.hid (HB4.out.1.set0 (1 + r))
        have HP5 := Lib.hid (HP4.out.set HB4.out.2 (Nat.le_refl _) 0 (.int .u8 (1 + r)))
        have HR5 := Lib.hid (HR4.out.set HNE.out 0 (.int .u8 (1 + r)))
        have HA5 := Lib.hid (HB4.out.2.later (b := w4.setCell ⟨w.heap.size, 0, none⟩ (.int .u8 (1 + r))) (wrote1 w4 w.heap.size 0 _).size)
        clear c0 f0 HB4 HP4 HR4 hrm hrw hrw2
        generalize w4.setCell ⟨w.heap.size, 0, none⟩ (.int .u8 (1 + r)) = w5 at *
        have hk2 : 1 + r = 1 ∨ 1 + r = 2 ∨ 1 + r = 3 := by omega
        generalize 1 + r = kd2 at *
        clear hr0 hkd
        have c0 := HB5.out.c0
        have c1 := HB5.out.c1
        have ba : Below w5.heap.size w5 (w5.alloc (.cells #[.int .u8 kd2, .int .i32 kv] 38)) := (Below.refl _ _).alloc (Nat.le_refl _) _
        have P6 := HP5.out.fresh ba
        have hoff := HP5.out.old (ao := some ⟨w5.heap.size, 0, none⟩) (n := 1) (fun _ x hx => by injection hx with hx; subst hx; exact .inr (Nat.le_refl _))
        have C := applyAny P6.sk P6.co P6.ap (some ⟨w5.heap.size, 0, none⟩) 1 1 [(kd2, kv)] (opsLit1 w5 kd2 kv) hoff.1 hoff.2 (by omega)
        have HP6 := Lib.hid P6
        have HR6 := Lib.hid (HR5.out.later ba)
        have HB6 := Lib.hid (And.intro (HB5.out.keep ba) (HA5.out.later ba.size))
        clear P6 hoff ba HP5 HR5 HB5 HA5
        go_wp2_with fail
        refine C.mono ?_
        clear C
        rintro e w7 hp
        obtain ⟨g2, F7, G7, rfl, rg, _, P7, _, _, wr7, lF7, lG7⟩ := HP6.out.post hp
        rw [batT_one] at rg
        rw [batS_one] at P7
        have HR7 := Lib.hid (HR6.out.next wr7 lF7 lG7)
        have HB7 := Lib.hid (And.intro (show OBox w7 w.heap.size kd2 kv from (HB6.out.2.block wr7).trans HB6.out.1) (HB6.out.2.next (b := w7) lF7 lG7 wr7.size))
        have HG7 := Lib.hid rg
        have HP7 := Lib.hid P7
        clear hp rg P7 wr7 lF7 lG7 HR6 HB6 HP6 c0 c1
        have C := itemsR HP7.out.sk.2
        go_wp2_with fail
        refine C.mono ?_
        clear C
        rintro e w8 ⟨ao8, cap8, rfl, r8, hc8, _, b8⟩
        have HB8 := Lib.hid (HB7.out.1.keep b8)
        have HG8 := Lib.hid (HG7.out.below b8)
        have HW8 := Lib.hid (HP7.out.fresh b8).b
        have HR8 := Lib.hid (And.intro r8 (HR7.out.later b8).r)
        clear r8 b8 HB7 HG7 HP7 HR7
        have c0 := HB8.out.c0
        have c0r := HB8.out.c0
        rcases hk2 with rfl | rfl | rfl
        · by_cases hf : (lk.length : Int) < n
          · have eT : (hpC n (vals lk) 1, hpV (vals lk) 1) = ((1 : Int), (0 : Int)) := by simp [hpC, hpV, vals_length, hf]
            have eS : ((stS n (lk, []) (1, kv)).1.map It.v).length = lk.length + 1 := by simp [stS, hf, insIt_length]
            rw [eT] at HG8
            rw [eS] at hc8 HR8 ⊢
            have dn : ((lk.length : Int) == n) = false := beq_eq_false_iff_ne.2 (by omega)
            have e1 : IntKind.i64.wrap ((lk.length : Int) + 1) = (lk.length : Int) + 1 := by rw [IntKind.wrap_i64]; omega
            clear eT eS hf
            generalize lk.length = L at *
            go_wp2_with fail
            refine (known w8).mono ?_
            rintro e w9 ⟨rfl, b9⟩
            have hg := HG8.out.below b9
            obtain ⟨x0, _⟩ := hg.cells (i := 0) (by simp)
            have HW9 := Lib.hid (HW8.out.trans (b9.mono HW8.out.size))
            clear b9 hg
            go_wp2
            go_ret
            exact ⟨rfl, HW9.out⟩
          · have eT : (hpC n (vals lk) 1, hpV (vals lk) 1) = ((3 : Int), (0 : Int)) := by simp [hpC, hpV, vals_length, hf]
            have eS : (stS n (lk, []) (1, kv)).1.map It.v = lk.map It.v := by simp [stS, hf]
            have eL : (lk.map It.v).length = lk.length := by simp
            rw [eT] at HG8
            rw [eS] at hc8 HR8 ⊢
            rw [eL] at hc8 HR8 ⊢
            have dn : ((lk.length : Int) == n) = true := beq_iff_eq.2 (by omega)
            clear eT eS eL hf
            generalize lk.length = L at *
            go_wp2_with fail
            refine (known w8).mono ?_
            rintro e w9 ⟨rfl, b9⟩
            have hg := HG8.out.below b9
            obtain ⟨x0, _⟩ := hg.cells (i := 0) (by simp)
            have HW9 := Lib.hid (HW8.out.trans (b9.mono HW8.out.size))
            have C := sameEq w9 ao8 ao L cap8 cap _ (HR8.out.1.keep b9) (HR8.out.2.keep b9) (by omega)
            clear b9 hg
            go_wp2_with fail
            refine C.mono ?_
            clear C
            rintro e w10 ⟨rfl, b10⟩
            have HW10 := Lib.hid (HW9.out.trans (b10.mono HW9.out.size))
            clear b10
            go_wp2
            go_ret
            exact ⟨rfl, HW10.out⟩
        · cases lk with
          | nil =>
            have eT : (hpC n (vals ([] : List It)) 2, hpV (vals ([] : List It)) 2) = ((4 : Int), (0 : Int)) := by simp [hpC, hpV, vals]
            have eS : ((stS n (([] : List It), ([] : List Bool)) (2, kv)).1.map It.v).length = 0 := by simp [stS]
            rw [eT] at HG8
            rw [eS] at hc8 HR8 ⊢
            clear eT eS
            go_wp2_with fail
            refine (known w8).mono ?_
            rintro e w9 ⟨rfl, b9⟩
            have hg := HG8.out.below b9
            obtain ⟨x0, _⟩ := hg.cells (i := 0) (by simp)
            have HW9 := Lib.hid (HW8.out.trans (b9.mono HW8.out.size))
            clear b9 hg
            go_wp2
            go_ret
            exact ⟨rfl, HW9.out⟩
          | cons i l =>
            have eT : (hpC n (vals (i :: l)) 2, hpV (vals (i :: l)) 2) = ((2 : Int), i.v) := by simp [hpC, hpV, vals]
            have eS : (stS n (i :: l, ([] : List Bool)) (2, kv)).1.map It.v = l.map It.v := by simp [stS]
            have eL : (l.map It.v).length = l.length := by simp
            rw [eT] at HG8
            rw [eS] at hc8 HR8 ⊢
            rw [eL] at hc8 HR8 ⊢
            have hrr := HR8.out.2
            simp only [List.map_cons, List.length_cons] at hrr hcap hLn ⊢
            have HRN := Lib.hid HR8.out.1
            obtain ⟨wb, wo, hao, wl, wc⟩ := hrr.2 (by omega)
            have y0 := wc 0 (by omega)
            rw [show (i.v :: l.map It.v).getD 0 0 = i.v from rfl, Nat.add_zero] at y0
            subst hao
            have HRD := Lib.hid (show Reads .i32 w8 (some ⟨wb, wo + 1, none⟩) l.length (l.map It.v) from reads_drop1 hrr rfl)
            obtain ⟨x0, x1⟩ := HG8.out.cells (i := 0) (by simp)
            have hgl := HG8.out.lt
            have z0 : w8.drew.cell? ⟨g2, 0, none⟩ = some (.int .u8 2) := x0
            have z1 : w8.drew.cell? ⟨g2, 1, none⟩ = some (.int .i32 i.v) := x1
            have z2 : w8.drew.cell? ⟨wb, wo, none⟩ = some (.int .i32 i.v) := y0
            have HK := Lib.hid (known w8.drew)
            have HL := Lib.hid (And.intro wl hgl)
            have hl0 : l.length ≤ 1000 := by omega
            clear eT eS eL hrr wc x0 x1 y0 hgl wl HR8
            generalize l.length = L at *
            by_cases hc1 : cap = 1
            · obtain rfl : L = 0 := by omega
              subst hc1
              have hrd : Reads .i32 w8 (some ⟨wb, wo, none⟩) 0 (l.map It.v) := ⟨(HRN.out).1, fun h => by omega⟩
              have HRD2 := Lib.hid hrd
              clear hrd
              go_wp2_with fail
              go_region_held3 (fun w' => w'.cell? ⟨g2, 0, none⟩ = some (.int .u8 2) ∧ w'.cell? ⟨g2, 1, none⟩ = some (.int .i32 i.v) ∧ w'.cell? ⟨wb, wo, none⟩ = some (.int .i32 i.v)) (first | exact ⟨z0, z1, z2⟩ | exact ⟨u0, u1, u2⟩ | exact ⟨v0, v1, v2⟩) (first
                | (go_at_call 9; refine HK.out.mono ?_; rintro e w9 ⟨rfl, b9⟩; have u0 := (b9.cell (p := ⟨g2, 0, none⟩) HL.out.2).trans z0; have u1 := (b9.cell (p := ⟨g2, 1, none⟩) HL.out.2).trans z1; have u2 := (b9.cell (p := ⟨wb, wo, none⟩) HL.out.1).trans z2; have HB9 := Lib.hid b9; have CS := Lib.hid (sameEq w9 ao8 (some ⟨wb, wo, none⟩) 0 cap8 0 _ (HRN.out.keep ((Below.refl _ w8).drew.trans b9)) (HRD2.out.keep ((Below.refl _ w8).drew.trans b9)) (by omega)); clear b9)
                | (go_at_call 21; refine CS.out.mono ?_; rintro e w10 ⟨rfl, b10⟩; have v0 := (b10.cell (p := ⟨g2, 0, none⟩) (Nat.lt_of_lt_of_le HL.out.2 HB9.out.size)).trans u0; have v1 := (b10.cell (p := ⟨g2, 1, none⟩) (Nat.lt_of_lt_of_le HL.out.2 HB9.out.size)).trans u1; have v2 := (b10.cell (p := ⟨wb, wo, none⟩) (Nat.lt_of_lt_of_le HL.out.1 HB9.out.size)).trans u2; have HB10 := Lib.hid (HB9.out.trans (b10.mono HB9.out.size)); clear b10))
              all_goals
                have HFin := Lib.hid (HW8.out.trans (((Below.refl _ w8).drew.trans HB10.out).mono HW8.out.size))
                go_wp2
                go_ret
                exact ⟨rfl, HFin.out⟩
            · have hrd : Reads .i32 w8 (some ⟨wb, wo + 1, none⟩) L (l.map It.v) := HRD.out
              have q1 : (0 : Int) ≤ (L : Int) := by omega
              have q2 : (L : Int) + 1 ≤ (cap : Int) := by omega
              have q3 : (1 : Int) ≤ (L : Int) + 1 := by omega
              have q4 : (1 : Int) ≤ (cap : Int) := by omega
              have q5 : L + 1 ≤ cap := by omega
              have q6 : 1 ≤ cap := by omega
              have HRD2 := Lib.hid hrd
              clear hrd
              go_wp2_with fail
              go_region_held3 (fun w' => w'.cell? ⟨g2, 0, none⟩ = some (.int .u8 2) ∧ w'.cell? ⟨g2, 1, none⟩ = some (.int .i32 i.v) ∧ w'.cell? ⟨wb, wo, none⟩ = some (.int .i32 i.v)) (first | exact ⟨z0, z1, z2⟩ | exact ⟨u0, u1, u2⟩ | exact ⟨v0, v1, v2⟩) (first
                | (go_at_call 9; refine HK.out.mono ?_; rintro e w9 ⟨rfl, b9⟩; have u0 := (b9.cell (p := ⟨g2, 0, none⟩) HL.out.2).trans z0; have u1 := (b9.cell (p := ⟨g2, 1, none⟩) HL.out.2).trans z1; have u2 := (b9.cell (p := ⟨wb, wo, none⟩) HL.out.1).trans z2; have HB9 := Lib.hid b9; have CS := Lib.hid (sameEq w9 ao8 (some ⟨wb, wo + 1, none⟩) L cap8 (cap - 1) _ (HRN.out.keep ((Below.refl _ w8).drew.trans b9)) (HRD2.out.keep ((Below.refl _ w8).drew.trans b9)) (by omega)); clear b9)
                | (go_at_call 21; refine CS.out.mono ?_; rintro e w10 ⟨rfl, b10⟩; have v0 := (b10.cell (p := ⟨g2, 0, none⟩) (Nat.lt_of_lt_of_le HL.out.2 HB9.out.size)).trans u0; have v1 := (b10.cell (p := ⟨g2, 1, none⟩) (Nat.lt_of_lt_of_le HL.out.2 HB9.out.size)).trans u1; have v2 := (b10.cell (p := ⟨wb, wo, none⟩) (Nat.lt_of_lt_of_le HL.out.1 HB9.out.size)).trans u2; have HB10 := Lib.hid (HB9.out.trans (b10.mono HB9.out.size)); clear b10))
              all_goals
                have HFin := Lib.hid (HW8.out.trans (((Below.refl _ w8).drew.trans HB10.out).mono HW8.out.size))
                go_wp2
                go_ret
                exact ⟨rfl, HFin.out⟩
        · have eT : (hpC n (vals lk) 3, hpV (vals lk) 3) = ((5 : Int), (0 : Int)) := by simp [hpC, hpV]
          have eS : (stS n (lk, []) (3, kv)).1.map It.v = lk.map It.v := by simp [stS]
          have eL : (lk.map It.v).length = lk.length := by simp
          rw [eT] at HG8
          rw [eS] at hc8 HR8 ⊢
          rw [eL] at hc8 HR8 ⊢
          clear eT eS eL
          have hL : lk.length ≤ 1000 := by omega
          generalize lk.length = L at *
          go_wp2_with fail
          refine (known w8).mono ?_
          rintro e w9 ⟨rfl, b9⟩
          have hg := HG8.out.below b9
          obtain ⟨x0, _⟩ := hg.cells (i := 0) (by simp)
          have HW9 := Lib.hid (HW8.out.trans (b9.mono HW8.out.size))
          have C := sameEq w9 ao8 ao L cap8 cap _ (HR8.out.1.keep b9) (HR8.out.2.keep b9) (by omega)
          clear b9 hg
          go_wp2_with fail
          refine C.mono ?_
          clear C
          rintro e w10 ⟨rfl, b10⟩
          have HW10 := Lib.hid (HW9.out.trans (b10.mono HW9.out.size))
          clear b10
          go_wp2
          go_ret
          exact ⟨rfl, HW10.out⟩

end Go.Proofs.Ytmkpmnmllgdppaa
