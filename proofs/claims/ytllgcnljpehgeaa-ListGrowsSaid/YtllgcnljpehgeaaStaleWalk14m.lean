/-
  The walk of ListStale: for all lists of bytes and every number it answers true and leaves all old memory as it was.
-/
import Derived.Test.YtllgcnljpehgeaaStlQ14m
import Derived.Deep.CutRange
namespace Go.Proofs.Ytllgcnljpehgeaa.M2
open Go.RowKit

theorem onAt {W : World} {g m i : Nat} {os : List Nat} (h : Reads .i64 W (some ⟨g, 0, none⟩) m (ints os)) (hm : os.length = m) (hi : i < m) : W.cell? ⟨g, i, none⟩ = some (.int .i64 ((os.getD i 0 : Nat) : Int)) := by
  obtain ⟨b, o, e, hl, hc⟩ := h.2 (by omega)
  simp only [Option.some.injEq, Addr.mk.injEq] at e
  obtain ⟨rfl, rfl, _⟩ := e
  have := hc i hi
  rw [Nat.zero_add] at this
  rw [this]
  have hi2 : i < os.length := by omega
  simp [ints, List.getD, hi2]
theorem cellAt {W : World} {g m i : Nat} {zs : List Int} (h : Reads .i64 W (some ⟨g, 0, none⟩) m zs) (hi : i < m) : W.cell? ⟨g, i, none⟩ = some (.int .i64 (zs.getD i 0)) := by
  obtain ⟨b, o, e, hl, hc⟩ := h.2 (by omega)
  simp only [Option.some.injEq, Addr.mk.injEq] at e
  obtain ⟨rfl, rfl, _⟩ := e
  have := hc i hi
  rwa [Nat.zero_add] at this

/-- A memory, its cells, the list that hangs together, and who is stale. -/
structure SM (w V : World) (p : Nat) (ws : List Int) (gl L g m : Nat) (os : List Nat) (a4 : Option Addr) (sl : Nat) (ss : List Int) (W : World) : Prop where
  me : Mem1 W V.heap.size p ws.length ws (1 + (ws.length : Int))
  c : Reads .i64 W (some ⟨gl, 0, none⟩) L ws
  l : Reads .i64 W (some ⟨g, 0, none⟩) m (ints os)
  r : Reads .i64 W a4 sl ss
  b : Below w.heap.size w W
theorem SM.fresh {w V W W' : World} {p gl L g m sl : Nat} {ws ss : List Int} {os : List Nat} {a4 : Option Addr} (h : SM w V p ws gl L g m os a4 sl ss W) (hb : Below W.heap.size W W') : SM w V p ws gl L g m os a4 sl ss W' := ⟨h.me.keep hb, h.c.keep hb, h.l.keep hb, h.r.keep hb, h.b.trans (hb.mono h.b.size)⟩

set_option maxRecDepth 100000 in
set_option maxHeartbeats 16000000 in
theorem staleWalk {w : World} (ac : Option Addr) (nc cc : Nat) (xs : List Int) (many at0 ag x : Int) (hx : ArgBytes w ac nc cc xs) (hnc : nc ≤ 140737488351232) (k0 : 0 ≤ many) (k1 : many ≤ 255) (j0 : 0 ≤ at0) (j1 : at0 ≤ 255) (g0 : 0 ≤ ag) (g1 : ag ≤ 255) (_ : -9223372036854775808 ≤ x) (_ : x ≤ 9223372036854775807) :
    Calls Try.prog 6 #[.slice ac nc cc, .int .u8 many, .int .u8 at0, .int .u8 ag, .int .i64 x] w fun e w' => e = .returned (.bool true) ∧ Below w.heap.size w w' := by
  have C := chainAny w ac nc cc xs hx hnc (1 + many % 10) (by omega) (by omega)
  clear hx
  go_enter Try.func6, Try.ntmps6
  go_wp2_with fail
  refine C.mono ?_
  clear C
  rintro e w1 ⟨n, os, zs, gl, g, c, rfl, ⟨hn1, hn9⟩, hol, hos, hch, hlw, hbl, hgl, hoc⟩
  have hle : os.length ≤ n := by omega
  have hm1 : 1 ≤ os.length := by omega
  have hzl := hch.len
  obtain ⟨m, hm⟩ : ∃ m, os.length = m := ⟨_, rfl⟩
  have hq0 := Int.emod_nonneg at0 (show (m : Int) ≠ 0 by omega)
  have hq1 := Int.emod_lt_of_pos at0 (show (0 : Int) < (m : Int) by omega)
  obtain ⟨k, hk⟩ : ∃ k : Nat, at0 % (m : Int) = (k : Int) := ⟨(at0 % (m : Int)).toNat, by omega⟩
  have hkm : k < os.length := by omega
  obtain ⟨q, hq, eq⟩ := hos.at hkm
  have hag0 := Int.emod_nonneg ag (show (60 : Int) ≠ 0 by omega)
  have hag1 := Int.emod_lt_of_pos ag (show (0 : Int) < 60 by omega)
  obtain ⟨age, hage⟩ : ∃ a, ag % 60 = a := ⟨_, rfl⟩
  rw [hage] at hag0 hag1
  have PT := hch.pathSet (x := x) hos hle (i := os.getD k 0) (by omega) (fun j _ => by omega)
  have WT := hch.waitSet (x := x) hos (by omega) hkm
  have OI : ∀ j, j < os.length → _ := fun j hj => hch.oldIs (x := x) (age := age) hos (by omega) hkm hag0 (by omega) hj
  have AG : ∀ j, j < os.length → _ := fun j hj => hch.z1at hos hj
  obtain ⟨a, ha⟩ : ∃ a, os.getD k 0 = a := ⟨_, rfl⟩
  rw [ha] at PT WT OI eq
  obtain ⟨L, hL⟩ : ∃ L, 3 + 5 * n = L := ⟨_, rfl⟩
  have haL : a < L := by omega
  have SI : ∀ j, j < os.length → _ := fun j hj => staleK_mem (age := age) (ws := zs.set a x) hos hj
  have SL := staleK_lt (os := os) (age := age) (ws := zs.set a x) (show 0 < os.length by omega)
  have c0 := (hlw.1).cell (i := a) (by omega)
  have cf := hlw.1.f a
  have hon := onAt hlw.2.1 rfl hkm
  rw [ha] at hon
  have LS := hlw.store (i := a) hbl hgl x
  have GL : ∀ j, j < os.length → os.getD j 0 + 2 < L ∧ (zs.set a x).getD (os.getD j 0 + 2) 0 = zs.getD (os.getD j 0 + 2) 0 := fun j hj => by
    obtain ⟨r, hr, er⟩ := hos.at hj
    exact ⟨by omega, by rw [getD_set, if_neg (by omega)]⟩
  generalize hws : zs.set a x = ws at *
  have hwl : ws.length = L := by rw [← hws, List.length_set, hzl, hL]
  have kk : (k : Int) < m := by omega
  have aL : (a : Int) < L := by omega
  have HM := Lib.hid hm
  have HWl := Lib.hid hwl
  have HPT := Lib.hid PT
  have HWT := Lib.hid WT
  have HOI := Lib.hid OI
  have HAG := Lib.hid AG
  have HSI := Lib.hid SI
  have HSL := Lib.hid SL
  have HGL := Lib.hid GL
  have HA := Lib.hid ha
  have HN := Lib.hid (show L ≤ 48 ∧ m ≤ 9 ∧ 0 < m ∧ k < m by omega)
  have HMD := Lib.hid (memoryAny (w1.setCell ⟨gl, a, none⟩ (.int .i64 x)) (some ⟨gl, 0, none⟩) L L ws (by have := LS.1.reads; rwa [hwl] at this) (by omega))
  have HL1 := Lib.hid (show Reads .i64 (w1.setCell ⟨gl, a, none⟩ (.int .i64 x)) (some ⟨gl, 0, none⟩) L ws by have := LS.1.reads; rwa [hwl] at this)
  have HL2 := Lib.hid (show Reads .i64 (w1.setCell ⟨gl, a, none⟩ (.int .i64 x)) (some ⟨g, 0, none⟩) m (ints os) by have := LS.2.1; rwa [hm] at this)
  have HL3 := Lib.hid (show Below w.heap.size w (w1.setCell ⟨gl, a, none⟩ (.int .i64 x)) from LS.2.2)
  have HK := Lib.hid (show at0 % (m : Int) = (k : Int) from hk)
  have hkk : at0 % (m : Int) = (k : Int) := hk
  have HAGE := Lib.hid (show 0 ≤ age ∧ age < 60 from ⟨hag0, hag1⟩)
  rw [hm, hL]
  clear hk hle hm1 hzl hq0 hq1 hkm hq eq hag0 hag1 PT WT OI AG SI SL GL ha hL haL hws hwl hm hlw LS hch hos hol hbl hgl hoc hn1 hn9
  go_wp2_with fail
  refine HMD.out.mono ?_
  clear HMD
  rintro e w2 ⟨p, u, rfl, m2, o2, b2⟩
  obtain ⟨au, cu, rfl⟩ := ownShape o2
  rw [HWl.out]
  have M2 := Lib.hid m2
  have HLa := Lib.hid (HL1.out.keep b2)
  have HLb := Lib.hid (HL2.out.keep b2)
  have HLc := Lib.hid (HL3.out.trans (b2.mono HL3.out.size))
  clear m2 o2 b2 c0 cf hon HL1 HL2 HL3
  generalize w1.setCell ⟨gl, a, none⟩ (.int .i64 x) = V1 at *
  go_upto_region 5 with (fail)
  generalize hW3 : w2.alloc (.cells #[.int .i64 (L : Int), .slice au L cu, .int .i64 (1 + (L : Int))] 33) = W3
  have f3 : Below w2.heap.size w2 W3 := by subst hW3; exact (Below.refl _ _).alloc (Nat.le_refl _) _
  have M3 := Lib.hid (M2.out.keep f3)
  have HL1 := Lib.hid (HLa.out.keep f3)
  have HL2 := Lib.hid (HLb.out.keep f3)
  have HL3 := Lib.hid (HLc.out.trans (f3.mono HLc.out.size))
  clear f3 hW3 M2 HLa HLb HLc
  have C := staleLAny M3.out HPT.out age
  go_wp2_with fail
  refine C.mono ?_
  clear C
  rintro e w4 ⟨v, rfl, hv⟩
  simp only [Bool.false_eq_true, if_false] at hv
  obtain ⟨a4, c4, rfl, r4, b4⟩ := hv
  obtain ⟨ss, hss⟩ : ∃ ss, staleK ws os age os.length = ss := ⟨_, rfl⟩
  obtain ⟨sl, hsl⟩ : ∃ sl, ss.length = sl := ⟨_, rfl⟩
  rw [hss, hsl] at r4 ⊢
  have HSS := Lib.hid hss
  have HSl := Lib.hid (show sl < m by have := HSL.out; rw [hss, hsl, HM.out] at this; exact this)
  have S4 := Lib.hid (show SM w V1 p ws gl L g m os a4 sl ss w4 from ⟨M3.out.keep b4, HL1.out.keep b4, HL2.out.keep b4, r4, HL3.out.trans (b4.mono HL3.out.size)⟩)
  clear r4 b4 hss hsl HL1 HL2 HL3 M3 HSL
  go_wp2
  go_loopw [17] (fun i wr => ∃ j : Nat, j ≤ m ∧ i = .int .i64 j ∧ SM w V1 p ws gl L g m os a4 sl ss wr) (fun i _ => m - (intOf i).toNat)
  case atStart => exact ⟨0, Nat.zero_le _, rfl, S4.out⟩
  case round =>
    obtain ⟨j, hj, rfl, hS⟩ := hrel
    have S5 := Lib.hid hS
    clear hS S4
    by_cases hlt : j < m
    · have i0 : (j : Int) < m := by omega
      have hjo : j < os.length := by rw [HM.out]; exact hlt
      have HLT := Lib.hid hlt
      have e1 := onAt S5.out.l HM.out hlt
      have hg := HGL.out j hjo
      have e2 := cellAt S5.out.c hg.1
      rw [hg.2] at e2
      have hag := HAG.out j hjo
      have hoi := HOI.out j hjo
      have hsi := HSI.out j hjo
      rw [HSS.out] at hsi
      obtain ⟨d, hd⟩ : ∃ d, os.getD j 0 = d := ⟨_, rfl⟩
      rw [hd] at e1 e2 hag hoi hsi hg
      obtain ⟨G, hG⟩ : ∃ G, zs.getD (d + 2) 0 = G := ⟨_, rfl⟩
      rw [hG] at e2 hag hoi
      obtain ⟨d2, hd2⟩ : ∃ d2, d + 2 = d2 := ⟨_, rfl⟩
      rw [hd2] at e2
      have q1 : IntKind.i64.wrap ((d : Int) + 2) = (d2 : Int) := by rw [show (d : Int) + 2 = d2 by omega]; exact IntWalk.i64_in _ (by have := HN.out; omega)
      have q2 : IntKind.i64.wrap (50 - G) = 50 - G := IntWalk.i64_in _ (by omega)
      have i1 : (d2 : Int) < L := by omega
      obtain ⟨b, hb⟩ : ∃ b, oldAt ws os age j = b := ⟨_, rfl⟩
      rw [hb] at hoi hsi
      have HOi := Lib.hid hoi
      have HSi := Lib.hid hsi
      have hag1 : ag % 60 = age := hage
      clear hg hag hoi hsi hd hG hd2 hb hjo hlt hj
      go_upto_region 11 with (fail)
      go_cut [18] from 59 to 84 (fun s wx => s = .bool b ∧ Hid (wr = wx))
      case first =>
        have ho := HOi.out
        clear HOi
        by_cases h1 : age < 50 - G
        · by_cases h2 : j = 0
          · subst h2
            have HB0 := Lib.hid (show b = false by rw [ho]; simp)
            clear ho
            go_wp2
            go_meet
            exact ⟨by rw [HB0.out], rfl⟩
          · have h3 : 0 < j := by omega
            have h4 : (0 : Int) < j := by omega
            by_cases h5 : j = k
            · subst h5
              by_cases h6 : x = 0
              · subst h6
                have HB0 := Lib.hid (show b = true by rw [ho]; simp [h1, h3])
                clear ho
                go_wp2
                go_meet
                exact ⟨by rw [HB0.out], rfl⟩
              · have h7 : (x == 0) = false := by simpa using h6
                have HB0 := Lib.hid (show b = false by rw [ho]; simp [h6])
                clear ho h6
                go_wp2
                go_meet
                exact ⟨by rw [HB0.out], rfl⟩
            · have h7 : ((j : Int) == (k : Int)) = false := by simpa using (by omega : ¬ (j : Int) = k)
              have HB0 := Lib.hid (show b = true by rw [ho]; simp [h1, h3, h5])
              clear ho
              go_wp2
              go_meet
              exact ⟨by rw [HB0.out], rfl⟩
        · have h2 : 50 - G ≤ age := by omega
          have HB0 := Lib.hid (show b = false by rw [ho]; simp [h1])
          clear ho h1
          go_wp2
          go_meet
          exact ⟨by rw [HB0.out], rfl⟩
      case' rest => skip
      obtain ⟨rfl, hwr⟩ := hcut
      have hwr : wr = wc := hwr
      subst hwr
      have m9 : (m : Int) ≤ 9 := by have := HN.out; omega
      have C := refPlace wr a4 sl c4 ss S5.out.r (by have := HSl.out; have := HN.out; omega) (d : Int)
      clear e2 q1 q2 i1
      go_wp2_with fail
      refine C.mono ?_
      clear C
      rintro e w6 ⟨i, rfl, hi, hin, hout, b6⟩
      have S6 := Lib.hid (S5.out.fresh b6)
      have hs := HSi.out
      have HI : (b = true ∧ 0 ≤ i) ∨ (b = false ∧ i < 0) := by
        cases b with
        | true => exact .inl ⟨rfl, hin (hs.2 rfl)⟩
        | false => exact .inr ⟨rfl, by have := hout (fun h => by have := hs.1 h; cases this); omega⟩
      clear hs hin hout hi b6 HSi
      rcases HI with ⟨rfl, hi⟩ | ⟨rfl, hi⟩
      · go_wp2
        go_roundw
        case rel => exact ⟨j + 1, HLT.out, by go_num, S6.out⟩
        case measure => have := HLT.out; simp [intOf]; omega
      · go_wp2
        go_roundw
        case rel => exact ⟨j + 1, HLT.out, by go_num, S6.out⟩
        case measure => have := HLT.out; simp [intOf]; omega
    · have i0 : (m : Int) ≤ j := by omega
      have C := waitingAny S5.out.me
      rw [HWT.out] at C
      clear hlt hj
      by_cases h0 : 0 < x
      · rw [if_pos h0] at C
        go_wp2_with fail
        refine C.mono ?_
        clear C
        rintro e w6 ⟨v, rfl, a6, c6, rfl, r6, b6⟩
        rw [show [(a : Int)].length = 1 from rfl] at r6 ⊢
        have S6 := Lib.hid (S5.out.fresh b6)
        obtain ⟨b7, o7, rfl, l7, h7⟩ := r6.2 (by omega)
        have R6 := Lib.hid r6
        have HC := Lib.hid (fun (W : World) (hb : Below w6.heap.size w6 W) => (show W.cell? ⟨b7, o7, none⟩ = some (.int .i64 (a : Int)) ∧ W.cell? ⟨g, k, none⟩ = some (.int .i64 (a : Int)) from by
          refine ⟨?_, ?_⟩
          · have := (hb.cell (p := ⟨b7, o7 + 0, none⟩) l7).trans (h7 0 (by omega))
            simpa using this
          · rw [onAt (S6.out.fresh hb).l HM.out HN.out.2.2.2, HA.out]))
        have s0 : (sl : Int) < m := by have := HSl.out; omega
        obtain ⟨i1, i2⟩ := HC.out _ (Below.refl _ _)
        obtain ⟨i3, i4⟩ := HC.out _ (Below.refl _ _).drew
        have HD := Lib.hid (show Below w6.heap.size w6 w6.drew from (Below.refl _ _).drew)
        have C1 := Lib.hid (known w6.drew)
        have hd : decide (x ≤ 0) = false := by simp; omega
        clear b6 l7 h7 r6 R6
        go_wp2
        go_region_held3 (fun w' => w'.cell? ⟨b7, o7, none⟩ = some (.int .i64 (a : Int)) ∧ w'.cell? ⟨g, k, none⟩ = some (.int .i64 (a : Int))) (first | with_reducible exact ⟨i5, i6⟩ | with_reducible exact ⟨i3, i4⟩ | with_reducible exact ⟨i1, i2⟩) (first
          | ((with_reducible refine C1.out.mono ?_); rintro e V1' ⟨rfl, f1⟩; have HD2 := Lib.hid (HD.out.trans (f1.mono HD.out.size)); obtain ⟨i5, i6⟩ := HC.out _ HD2.out; clear f1))
        all_goals
          go_wp2
          go_ret
          exact ⟨by simp, (S6.out.fresh HD2.out).b⟩
      · rw [if_neg h0] at C
        go_wp2_with fail
        refine C.mono ?_
        clear C
        rintro e w6 ⟨v, rfl, a6, c6, rfl, r6, b6⟩
        rw [show ([] : List Int).length = 0 from rfl] at r6 ⊢
        have S6 := Lib.hid (S5.out.fresh b6)
        have s0 : (sl : Int) < m := by have := HSl.out; omega
        have hd : decide (x ≤ 0) = true := by simp; omega
        have hd2 : decide (0 < x) = false := by simp; omega
        clear b6 r6 h0
        go_wp2
        refine wp_region_noPanic ?_
        refine wp_region_held_drew (S := fun _ => True) (by kernel_rfl) trivial (fun _ => ?_)
        refine wpAnyH_ready (rs := [0]) (by kernel_rfl) (by simp) ?_
        refine AllReadyH.cons rfl (fun K hK => ?_) AllReadyH.nil
        go_simp
        refine (known _).mono ?_
        rintro e W7 ⟨rfl, f7⟩
        have S7 := Lib.hid (S6.out.fresh ((Below.refl _ _).drew.trans f7))
        clear f7
        try go_wp2_with fail
        refine hK.out _ _ trivial (fun _ => ?_)
        clear hK K
        try simp only [List.getElem_toArray, List.getElem_cons_succ, List.getElem_cons_zero, Act.put, List.setIfInBounds_toArray, List.set_cons_zero, List.set_cons_succ]
        refine wpAnyH_take (i := 1) (v := ?_) rfl (by kernel_rfl) (by kernel_rfl) (by kernel_rfl) (fun _ _ _ h => h) (Or.inl ⟨by rfl, ?_⟩) trivial ?_
        rotate_left
        · intro w hSw
          go_simp
          try with_reducible rfl
        try simp only [List.getElem_toArray, List.getElem_cons_succ, List.getElem_cons_zero, Act.put, List.setIfInBounds_toArray, List.set_cons_zero, List.set_cons_succ]
        refine wpAnyH_take (i := 2) (v := ?_) rfl (by kernel_rfl) (by kernel_rfl) (by kernel_rfl) (fun _ _ _ h => h) (Or.inl ⟨by rfl, ?_⟩) trivial ?_
        rotate_left
        · intro w hSw
          go_simp
          try with_reducible rfl
        try simp only [List.getElem_toArray, List.getElem_cons_succ, List.getElem_cons_zero, Act.put, List.setIfInBounds_toArray, List.set_cons_zero, List.set_cons_succ]
        refine wpAnyH_take (i := 3) (v := ?_) rfl (by kernel_rfl) (by kernel_rfl) (by kernel_rfl) (fun _ _ _ h => h) (Or.inl ⟨by rfl, ?_⟩) trivial ?_
        rotate_left
        · intro w hSw
          go_simp
          try with_reducible rfl
        try simp only [List.getElem_toArray, List.getElem_cons_succ, List.getElem_cons_zero, Act.put, List.setIfInBounds_toArray, List.set_cons_zero, List.set_cons_succ]
        refine wpAnyH_take (i := 4) (v := ?_) rfl (by kernel_rfl) (by kernel_rfl) (by kernel_rfl) (fun _ _ _ h => h) (Or.inl ⟨by rfl, ?_⟩) trivial ?_
        rotate_left
        · intro w hSw
          go_simp
          try with_reducible rfl
        try simp only [List.getElem_toArray, List.getElem_cons_succ, List.getElem_cons_zero, Act.put, List.setIfInBounds_toArray, List.set_cons_zero, List.set_cons_succ]
        refine wpAnyH_take (i := 5) (v := ?_) rfl (by kernel_rfl) (by kernel_rfl) (by kernel_rfl) (fun _ _ _ h => h) (Or.inl ⟨by rfl, ?_⟩) trivial ?_
        rotate_left
        · intro w hSw
          go_simp
          try with_reducible rfl
        try simp only [List.getElem_toArray, List.getElem_cons_succ, List.getElem_cons_zero, Act.put, List.setIfInBounds_toArray, List.set_cons_zero, List.set_cons_succ]
        refine wpAnyH_take (i := 6) (v := ?_) rfl (by kernel_rfl) (by kernel_rfl) (by kernel_rfl) (fun _ _ _ h => h) (Or.inl ⟨by rfl, ?_⟩) trivial ?_
        rotate_left
        · intro w hSw
          go_simp
          try with_reducible rfl
        try simp only [List.getElem_toArray, List.getElem_cons_succ, List.getElem_cons_zero, Act.put, List.setIfInBounds_toArray, List.set_cons_zero, List.set_cons_succ]
        refine wpAnyH_take (i := 7) (v := ?_) rfl (by kernel_rfl) (by kernel_rfl) (by kernel_rfl) (fun _ _ _ h => h) (Or.inl ⟨by rfl, ?_⟩) trivial ?_
        rotate_left
        · intro w hSw
          go_simp
          try with_reducible rfl
        try simp only [List.getElem_toArray, List.getElem_cons_succ, List.getElem_cons_zero, Act.put, List.setIfInBounds_toArray, List.set_cons_zero, List.set_cons_succ]
        refine wpAnyH_take (i := 8) (v := ?_) rfl (by kernel_rfl) (by kernel_rfl) (by kernel_rfl) (fun _ _ _ h => h) (Or.inl ⟨by rfl, ?_⟩) trivial ?_
        rotate_left
        · intro w hSw
          go_simp
          try with_reducible rfl
        try simp only [List.getElem_toArray, List.getElem_cons_succ, List.getElem_cons_zero, Act.put, List.setIfInBounds_toArray, List.set_cons_zero, List.set_cons_succ]
        refine wpAnyH_take (i := 9) (v := ?_) rfl (by kernel_rfl) (by kernel_rfl) (by kernel_rfl) (fun _ _ _ h => h) (Or.inl ⟨by rfl, ?_⟩) trivial ?_
        rotate_left
        · intro w hSw
          go_simp
          try with_reducible rfl
        try simp only [List.getElem_toArray, List.getElem_cons_succ, List.getElem_cons_zero, Act.put, List.setIfInBounds_toArray, List.set_cons_zero, List.set_cons_succ]
        refine wpAnyH_take (i := 10) (v := ?_) rfl (by kernel_rfl) (by kernel_rfl) (by kernel_rfl) (fun _ _ _ h => h) (Or.inl ⟨by rfl, ?_⟩) trivial ?_
        rotate_left
        · intro w hSw
          go_simp
          try with_reducible rfl
        try simp only [List.getElem_toArray, List.getElem_cons_succ, List.getElem_cons_zero, Act.put, List.setIfInBounds_toArray, List.set_cons_zero, List.set_cons_succ]
        refine wpAnyH_take (i := 11) (v := ?_) rfl (by kernel_rfl) (by kernel_rfl) (by kernel_rfl) (fun _ _ _ h => h) (Or.inl ⟨by rfl, ?_⟩) trivial ?_
        rotate_left
        · intro w hSw
          go_simp
          try with_reducible rfl
        try simp only [List.getElem_toArray, List.getElem_cons_succ, List.getElem_cons_zero, Act.put, List.setIfInBounds_toArray, List.set_cons_zero, List.set_cons_succ]
        refine wpAnyH_take (i := 12) (v := ?_) rfl (by kernel_rfl) (by kernel_rfl) (by kernel_rfl) (fun _ _ _ h => h) (Or.inl ⟨by rfl, ?_⟩) trivial ?_
        rotate_left
        · intro w hSw
          go_simp
          try with_reducible rfl
        try simp only [List.getElem_toArray, List.getElem_cons_succ, List.getElem_cons_zero, Act.put, List.setIfInBounds_toArray, List.set_cons_zero, List.set_cons_succ]
        refine wpAnyH_take (i := 13) (v := ?_) rfl (by kernel_rfl) (by kernel_rfl) (by kernel_rfl) (fun _ _ _ h => h) (Or.inl ⟨by rfl, ?_⟩) trivial ?_
        rotate_left
        · intro w hSw
          go_simp
          try with_reducible rfl
        try simp only [List.getElem_toArray, List.getElem_cons_succ, List.getElem_cons_zero, Act.put, List.setIfInBounds_toArray, List.set_cons_zero, List.set_cons_succ]
        refine wpAnyH_take (i := 14) (v := ?_) rfl (by kernel_rfl) (by kernel_rfl) (by kernel_rfl) (fun _ _ _ h => h) (Or.inl ⟨by rfl, ?_⟩) trivial ?_
        rotate_left
        · intro w hSw
          go_simp
          try with_reducible rfl
        try simp only [List.getElem_toArray, List.getElem_cons_succ, List.getElem_cons_zero, Act.put, List.setIfInBounds_toArray, List.set_cons_zero, List.set_cons_succ]
        refine wpAnyH_take (i := 15) (v := ?_) rfl (by kernel_rfl) (by kernel_rfl) (by kernel_rfl) (fun _ _ _ h => h) (Or.inl ⟨by rfl, ?_⟩) trivial ?_
        rotate_left
        · intro w hSw
          go_simp
          try with_reducible rfl
        try simp only [List.getElem_toArray, List.getElem_cons_succ, List.getElem_cons_zero, Act.put, List.setIfInBounds_toArray, List.set_cons_zero, List.set_cons_succ]
        refine wpAnyH_take (i := 16) (v := ?_) rfl (by kernel_rfl) (by kernel_rfl) (by kernel_rfl) (fun _ _ _ h => h) (Or.inl ⟨by rfl, ?_⟩) trivial ?_
        rotate_left
        · intro w hSw
          go_simp
          try with_reducible rfl
        try simp only [List.getElem_toArray, List.getElem_cons_succ, List.getElem_cons_zero, Act.put, List.setIfInBounds_toArray, List.set_cons_zero, List.set_cons_succ]
        refine wpAnyH_take (i := 17) (v := ?_) rfl (by kernel_rfl) (by kernel_rfl) (by kernel_rfl) (fun _ _ _ h => h) (Or.inl ⟨by rfl, ?_⟩) trivial ?_
        rotate_left
        · intro w hSw
          go_simp
          try with_reducible rfl
        try simp only [List.getElem_toArray, List.getElem_cons_succ, List.getElem_cons_zero, Act.put, List.setIfInBounds_toArray, List.set_cons_zero, List.set_cons_succ]
        refine wpAnyH_take (i := 18) (v := ?_) rfl (by kernel_rfl) (by kernel_rfl) (by kernel_rfl) (fun _ _ _ h => h) (Or.inl ⟨by rfl, ?_⟩) trivial ?_
        rotate_left
        · intro w hSw
          go_simp
          try with_reducible rfl
        try simp only [List.getElem_toArray, List.getElem_cons_succ, List.getElem_cons_zero, Act.put, List.setIfInBounds_toArray, List.set_cons_zero, List.set_cons_succ]
        refine wpAnyH_take (i := 19) (v := ?_) rfl (by kernel_rfl) (by kernel_rfl) (by kernel_rfl) (fun _ _ _ h => h) (Or.inl ⟨by rfl, ?_⟩) trivial ?_
        rotate_left
        · intro w hSw
          go_simp
          try with_reducible rfl
        try simp only [List.getElem_toArray, List.getElem_cons_succ, List.getElem_cons_zero, Act.put, List.setIfInBounds_toArray, List.set_cons_zero, List.set_cons_succ]
        refine wpAnyH_take (i := 20) (v := undef) rfl (by kernel_rfl) (by kernel_rfl) (by kernel_rfl) (fun _ _ _ h => h) (Or.inr ⟨by rfl, rfl⟩) trivial ?_
        try simp only [List.getElem_toArray, List.getElem_cons_succ, List.getElem_cons_zero, Act.put, List.setIfInBounds_toArray, List.set_cons_zero, List.set_cons_succ]
        refine wpAnyH_take (i := 21) (v := undef) rfl (by kernel_rfl) (by kernel_rfl) (by kernel_rfl) (fun _ _ _ h => h) (Or.inr ⟨by rfl, rfl⟩) trivial ?_
        try simp only [List.getElem_toArray, List.getElem_cons_succ, List.getElem_cons_zero, Act.put, List.setIfInBounds_toArray, List.set_cons_zero, List.set_cons_succ]
        refine wpAnyH_take (i := 22) (v := undef) rfl (by kernel_rfl) (by kernel_rfl) (by kernel_rfl) (fun _ _ _ h => h) (Or.inr ⟨by rfl, rfl⟩) trivial ?_
        try simp only [List.getElem_toArray, List.getElem_cons_succ, List.getElem_cons_zero, Act.put, List.setIfInBounds_toArray, List.set_cons_zero, List.set_cons_succ]
        refine wpAnyH_take (i := 23) (v := undef) rfl (by kernel_rfl) (by kernel_rfl) (by kernel_rfl) (fun _ _ _ h => h) (Or.inr ⟨by rfl, rfl⟩) trivial ?_
        try simp only [List.getElem_toArray, List.getElem_cons_succ, List.getElem_cons_zero, Act.put, List.setIfInBounds_toArray, List.set_cons_zero, List.set_cons_succ]
        refine wpAnyH_take (i := 24) (v := undef) rfl (by kernel_rfl) (by kernel_rfl) (by kernel_rfl) (fun _ _ _ h => h) (Or.inr ⟨by rfl, rfl⟩) trivial ?_
        try simp only [List.getElem_toArray, List.getElem_cons_succ, List.getElem_cons_zero, Act.put, List.setIfInBounds_toArray, List.set_cons_zero, List.set_cons_succ]
        refine wpAnyH_take (i := 25) (v := undef) rfl (by kernel_rfl) (by kernel_rfl) (by kernel_rfl) (fun _ _ _ h => h) (Or.inr ⟨by rfl, rfl⟩) trivial ?_
        try simp only [List.getElem_toArray, List.getElem_cons_succ, List.getElem_cons_zero, Act.put, List.setIfInBounds_toArray, List.set_cons_zero, List.set_cons_succ]
        refine wpAnyH_take (i := 26) (v := undef) rfl (by kernel_rfl) (by kernel_rfl) (by kernel_rfl) (fun _ _ _ h => h) (Or.inr ⟨by rfl, rfl⟩) trivial ?_
        try simp only [List.getElem_toArray, List.getElem_cons_succ, List.getElem_cons_zero, Act.put, List.setIfInBounds_toArray, List.set_cons_zero, List.set_cons_succ]
        refine wpAnyH_take (i := 27) (v := undef) rfl (by kernel_rfl) (by kernel_rfl) (by kernel_rfl) (fun _ _ _ h => h) (Or.inr ⟨by rfl, rfl⟩) trivial ?_
        try simp only [List.getElem_toArray, List.getElem_cons_succ, List.getElem_cons_zero, Act.put, List.setIfInBounds_toArray, List.set_cons_zero, List.set_cons_succ]
        refine wpAnyH_take (i := 28) (v := ?_) rfl (by kernel_rfl) (by kernel_rfl) (by kernel_rfl) (fun _ _ _ h => h) (Or.inl ⟨by rfl, ?_⟩) trivial ?_
        rotate_left
        · intro w hSw
          go_simp
          try with_reducible rfl
        try simp only [List.getElem_toArray, List.getElem_cons_succ, List.getElem_cons_zero, Act.put, List.setIfInBounds_toArray, List.set_cons_zero, List.set_cons_succ]
        refine wpAnyH_take (i := 29) (v := ?_) rfl (by kernel_rfl) (by kernel_rfl) (by kernel_rfl) (fun _ _ _ h => h) (Or.inl ⟨by rfl, ?_⟩) trivial ?_
        rotate_left
        · intro w hSw
          go_simp
          try with_reducible rfl
        try simp only [List.getElem_toArray, List.getElem_cons_succ, List.getElem_cons_zero, Act.put, List.setIfInBounds_toArray, List.set_cons_zero, List.set_cons_succ]
        refine wpAnyH_take (i := 30) (v := ?_) rfl (by kernel_rfl) (by kernel_rfl) (by kernel_rfl) (fun _ _ _ h => h) (Or.inl ⟨by rfl, ?_⟩) trivial ?_
        rotate_left
        · intro w hSw
          go_simp
          try with_reducible rfl
        try simp only [List.getElem_toArray, List.getElem_cons_succ, List.getElem_cons_zero, Act.put, List.setIfInBounds_toArray, List.set_cons_zero, List.set_cons_succ]
        refine wpAnyH_done (by kernel_rfl) ?_ _
        refine NoPanic.normal ?_
        go_wp2
        go_ret
        exact ⟨by simp, S7.out.b⟩

end Go.Proofs.Ytllgcnljpehgeaa.M2
