/-
  The function SortedDoes returns true: batches, sorted in one go or one by one: each is told what the chapter says, and levels and bits are as it says. Conditions: lists of operations and bytes as they came in.
-/
import Derived.Test.YtmkpmnmllgdppaaDoesPl11m
namespace Go.Proofs.Ytmkpmnmllgdppaa
open Go.RowKit Go.Lib

/-- In the inner loop. -/
def LvAt (w : World) (wr : World) : Prop := Below w.heap.size w wr

set_option maxRecDepth 100000 in
set_option maxHeartbeats 64000000 in
theorem doesAny (w : World) (x : Int) (al : Option Addr) (nl cl : Nat) (xs : List Int) (aa : Option Addr) (na ca : Nat) (os : List (Int × Int)) (ab : Option Addr) (nb cb : Nat) (ps : List (Int × Int))
    (hx : Reads .u8 w al nl xs) (hxb : ∀ z ∈ xs, 0 ≤ z ∧ z ≤ 255) (hnl : nl ≤ 200) (ha : OpsAt w aa na os) (hna : na ≤ 200) (hb : OpsAt w ab nb ps) (hnb : nb ≤ 200) :
    Calls Try.prog 10 #[.int .i64 x, .slice al nl cl, .slice aa na ca, .slice ab nb cb] w fun e w' => e = .returned (.bool true) ∧ Below w.heap.size w w' := by
  have hmo := mostOf_in x
  have HX := Lib.hid (And.intro hx hxb)
  have HA := Lib.hid ha
  have HB := Lib.hid hb
  have HLA := Lib.hid ha.1
  have HLB := Lib.hid hb.1
  have HXO := Lib.hid (show 0 < nl → ∀ a, al = some a → a.block < w.heap.size from fun hp a e => by obtain ⟨b', o', e', l', _⟩ := hx.2 hp; rw [e'] at e; injection e with e; subst e; exact l')
  have HAO := Lib.hid (opsOld ha)
  have HBO := Lib.hid (opsOld hb)
  clear hx hxb ha hb
  obtain ⟨m, hm⟩ : ∃ m, mostOf x = m := ⟨_, rfl⟩
  have HM := Lib.hid hm
  rw [hm] at hmo
  go_enter Try.func10, Try.ntmps10
  go_wp2_with fail
  refine (newS x w).mono ?_
  rintro e w1 ⟨rfl, s1, bl1⟩
  rw [hm] at s1
  go_wp2_with fail
  refine (newS x w1).mono ?_
  rintro e w2 ⟨rfl, s2, bl2⟩
  rw [hm] at s2
  go_wp2_with fail
  refine (newC w2).mono ?_
  rintro e w3 ⟨rfl, c3, bl3⟩
  go_wp2_with fail
  refine (newC w3).mono ?_
  rintro e w4 ⟨rfl, c4, bl4⟩
  have z1 := bl1.size
  have z2 := bl2.size
  have z3 := bl3.size
  have P1 : PrAt w (New w w1) (New w2 w3) (some w.heap.size) w2.heap.size m ([], []) w4 := ⟨SkO.of (((s1.fresh bl2).fresh bl3).fresh bl4), c3.fresh bl4, fun g h1 h2 => by have := h1.2; have := h2.1; omega, ((bl1.trans (bl2.mono z1)).trans (bl3.mono (by omega))).trans (bl4.mono (by omega)), fun g hg => hg.1, fun g hg => by have := hg.1; omega⟩
  have P2 : PrAt w (New w1 w2) (New w3 w4) (some w1.heap.size) w3.heap.size m ([], []) w4 := ⟨SkO.of ((s2.fresh bl3).fresh bl4), c4, fun g h1 h2 => by have := h1.2; have := h2.1; omega, P1.b, fun g hg => by have := hg.1; omega, fun g hg => by have := hg.1; omega⟩
  have Q4 : PP w (New w w1) (New w2 w3) (New w1 w2) (New w3 w4) w.heap.size w2.heap.size w1.heap.size w3.heap.size m ([], []) ([], []) w4 := ⟨P1, P2, fun g h1 h2 => by
    rcases h1 with h1 | h1 <;> rcases h2 with h2 | h2 <;> (have a1 := h1.1; have a2 := h1.2; have b1 := h2.1; have b2 := h2.2; omega)⟩
  have HQ4 := Lib.hid Q4
  have C := feedAny Q4.l.co (cap := cl) (HX.out.1.keep Q4.l.b) (Q4.l.old (fun hp a e => .inl (HXO.out hp a e)) (n := nl) (ao := al)).2 HX.out.2 (by omega)
  clear s1 s2 c3 c4 bl1 bl2 bl3 bl4 P1 P2 Q4 z1 z2 z3
  generalize New w w1 = F1 at *
  generalize New w2 w3 = G1 at *
  generalize New w1 w2 = F2 at *
  generalize New w3 w4 = G2 at *
  generalize w1.heap.size = p2 at *
  generalize w2.heap.size = q1 at *
  generalize w3.heap.size = q2 at *
  go_wp2_with fail
  refine C.mono ?_
  clear C
  rintro e w5 ⟨rfl, d5⟩
  have HQ5 := Lib.hid (HQ4.out.feed d5)
  obtain ⟨G1', Q5⟩ := HQ5.out
  have HQ5 := Lib.hid Q5
  have C := feedAny Q5.r.co (cap := cl) (HX.out.1.keep Q5.r.b) (Q5.r.old (fun hp a e => .inl (HXO.out hp a e)) (n := nl) (ao := al)).2 HX.out.2 (by omega)
  clear d5 Q5 HQ4
  go_wp2_with fail
  refine C.mono ?_
  clear C
  rintro e w6 ⟨rfl, d6⟩
  obtain ⟨G2', Q6⟩ := HQ5.out.swap.feed d6
  have HQ6 := Lib.hid Q6.swap
  have hbl := Q6.l.co.len
  clear d6 Q6 HQ5
  have C := refFeed w6 (.slice none 0 0) [] al nl cl xs Tail.nothing (by simp) (HX.out.1.keep HQ6.out.l.b) HX.out.2 (by omega)
  go_wp2_with fail
  refine C.mono ?_
  clear C
  rintro e w7 ⟨v7, rfl, t7, b7, n7⟩
  have HS := Lib.hid (show DsAt w w.heap.size q1 p2 q2 m (sK m (feedL [] xs) os ps 0) (.slice none 0 0) v7 w7 from
    ⟨F1, G1', F2, G2', none, 0, rfl, HQ6.out.fresh b7, ItemsAt.nil _ _, Nat.le_refl _, (fun y hy => by cases hy), t7, fun g hg => HQ6.out.young (n7 g hg) (t7.lt hg)⟩)
  clear t7 b7 n7 HQ6 hbl hm
  generalize feedL [] xs = bs at *
  go_wp2_with fail
  go_loopw [13, 14, 15] (fun t v i wr => ∃ k : Nat, k ≤ 2 ∧ i = .int .i64 k ∧ DsAt w w.heap.size q1 p2 q2 m (sK m bs os ps k) t v wr) (fun _ _ i _ => 2 - (intOf i).toNat)
  case atStart => exact ⟨0, by omega, rfl, HS.out⟩
  case round =>
    obtain ⟨k, hk, rfl, hr⟩ := hrel
    clear HS
    rcases (show k = 0 ∨ k = 1 ∨ k = 2 by omega) with rfl | rfl | rfl
    · obtain ⟨s, hs⟩ : ∃ s, sK m bs os ps 0 = s := ⟨_, rfl⟩
      have HSK := Lib.hid (show sK m bs os ps (0 + 1) = batS m s os by rw [← hs]; rfl)
      rw [hs] at hr
      clear hs
      obtain ⟨F1, G1, F2, G2, a, c, rfl, hP, hI, hcap, hIA, hT, hTA⟩ := hr
      have hblen := hP.l.co.len
      have hroom := hP.l.sk.room
      have C := refBat11 wr x a s.1.length c _ aa na ca s.1 s.2 os hI hcap (by omega) hT hblen (HA.out.keep hP.l.b) (by omega) (by rw [HM.out]; exact hroom.1)
      rw [HM.out] at C
      have HP := Lib.hid hP
      have HOld := Lib.hid (And.intro hIA hTA)
      clear hP hI hcap hIA hT hTA hblen
      go_wp2_with fail
      refine C.mono ?_
      clear C
      rintro e w5 ⟨a5, c5, v5, b5, rfl, i5, hc5, hip5, t5, o5, r5, hb5, bl5⟩
      rw [HLA.out]
      have hs5 := bl5.size
      have hsz := HP.out.l.b.size
      have HA5 := Lib.hid (And.intro (show ∀ y, a5 = some y → 0 < (batS m s os).1.length → AA F1 G1 F2 G2 w5 y.block from fun y hy hp => by
        rcases (hip5 y hy hp).2 with h | ⟨h0, y0, hy0, e0⟩
        · exact HP.out.young h (i5.lt hp y hy)
        · rw [e0]; exact (HOld.out.1 y0 hy0 h0).later hs5) (show ∀ g, v5.ownBlock = some g → AA F1 G1 F2 G2 w5 g from fun g hg => by rw [o5] at hg; exact (HOld.out.2 g hg).later hs5))
      have HB5 := Lib.hid (HP.out.young (b := w5) hb5 r5.lt)
      have HP5 := Lib.hid (HP.out.fresh bl5)
      have HK5 := Lib.hid (And.intro i5 (And.intro t5 (And.intro r5 hc5)))
      have hoff := HP5.out.l.old (fun hp y e => .inl (HAO.out hp y e)) (n := na) (ao := aa)
      have C := applyAny HP5.out.l.sk HP5.out.l.co HP5.out.l.ap aa na ca os (HA.out.keep HP5.out.l.b) hoff.1 hoff.2 (by omega)
      clear i5 hip5 t5 o5 r5 hb5 bl5 hs5 hsz hoff HP HOld hc5
      go_wp2_with fail
      refine C.mono ?_
      clear C
      rintro e w6 hp
      have hs6 : w5.heap.size ≤ w6.heap.size := by obtain ⟨_, _, _, _, _, _, _, _, _, _, _, hw, _⟩ := hp; exact hw.size
      obtain ⟨g1, F3, G3, rfl, rg1, P6, ag1, hk6⟩ := HP5.out.post hp
      rw [HLA.out]
      obtain ⟨i6, ia6⟩ := items_aside HK5.out.1 HA5.out.1 hs6 hk6
      obtain ⟨t6, ta6⟩ := tail_aside HK5.out.2.1 HA5.out.2 hs6 hk6
      have hb6 := hk6 b5 HB5.out
      have rb6 : RRow w6 b5 (batT 3 m (vals s.1) os) := hb6.2.trans HK5.out.2.2.1
      have HK6 := Lib.hid (And.intro i6 (And.intro t6 (And.intro ia6 (And.intro ta6 (And.intro hb6.1 (And.intro HK5.out.2.2.2 (And.intro rb6 P6)))))))
      have T1 := rg1.ops
      have T2 := rb6.ops
      have hlt : (batT 3 m (vals s.1) os).length = na := by rw [batT_length]; exact HLA.out
      have HLT := Lib.hid hlt
      rw [hlt] at T1 T2
      have C := toldEq w6 (some ⟨g1, 0, none⟩) (some ⟨b5, 0, none⟩) na na na _ T1 T2 (by omega)
      clear hp hs6 rg1 P6 ag1 hk6 i6 ia6 t6 ta6 hb6 rb6 T1 T2 hlt HK5 HA5 HB5 HP5
      go_wp2_with fail
      refine C.mono ?_
      clear C
      rintro e w7 ⟨rfl, b7⟩
      have P7 := (HK6.out.2.2.2.2.2.2.2.fresh b7).swap
      have hs7 := b7.size
      have HK7 := Lib.hid (And.intro (HK6.out.1.keep b7) (And.intro (tail_below HK6.out.2.1 b7) (And.intro (show ∀ y, a5 = some y → 0 < (batS m s os).1.length → AA F2 G2 F3 G3 w7 y.block from fun y hy hp => ((HK6.out.2.2.1 y hy hp).later hs7).swap) (And.intro (show ∀ g, v5.ownBlock = some g → AA F2 G2 F3 G3 w7 g from fun g hg => ((HK6.out.2.2.2.1 g hg).later hs7).swap) (And.intro ((HK6.out.2.2.2.2.1.later hs7).swap : AA F2 G2 F3 G3 w7 b5) (And.intro (HK6.out.2.2.2.2.2.2.1.below b7) P7))))))
      have hc5 := HK6.out.2.2.2.2.2.1
      have hoff := P7.l.old (fun hp y e => .inl (HAO.out hp y e)) (n := na) (ao := aa)
      have C := plainAny P7.l.sk P7.l.co P7.l.ap aa na ca os (HA.out.keep P7.l.b) hoff.1 hoff.2 (by omega)
      clear P7 hs7 b7 hoff HK6
      go_wp2_with fail
      refine C.mono ?_
      clear C
      rintro e w8 hp
      have hs8 : w7.heap.size ≤ w8.heap.size := by obtain ⟨_, _, _, _, _, _, _, _, _, _, _, hw, _⟩ := hp; exact hw.size
      obtain ⟨g2, F4, G4, rfl, rg2, P8, ag2, hk8⟩ := HK7.out.2.2.2.2.2.2.post hp
      rw [HLA.out]
      obtain ⟨i8, ia8⟩ := items_aside HK7.out.1 HK7.out.2.2.1 hs8 hk8
      obtain ⟨t8, ta8⟩ := tail_aside HK7.out.2.1 HK7.out.2.2.2.1 hs8 hk8
      have rb8 : RRow w8 b5 (batT 3 m (vals s.1) os) := (hk8 b5 HK7.out.2.2.2.2.1).2.trans HK7.out.2.2.2.2.2.1
      have T1 := rg2.ops
      have T2 := rb8.ops
      rw [HLT.out] at T1 T2
      have HK8 := Lib.hid (And.intro i8 (And.intro t8 (And.intro (show ∀ y, a5 = some y → 0 < (batS m s os).1.length → AA F3 G3 F4 G4 w8 y.block from fun y hy hp => (ia8 y hy hp).swap) (And.intro (show ∀ g, v5.ownBlock = some g → AA F3 G3 F4 G4 w8 g from fun g hg => (ta8 g hg).swap) P8.swap))))
      have C := toldEq w8 (some ⟨g2, 0, none⟩) (some ⟨b5, 0, none⟩) na na na _ T1 T2 (by omega)
      clear hp hs8 rg2 P8 ag2 hk8 i8 ia8 t8 ta8 rb8 T1 T2 HK7 HLT
      go_wp2_with fail
      refine C.mono ?_
      clear C
      rintro e w9 ⟨rfl, b9⟩
      have hs9 := b9.size
      have HK9 := Lib.hid (And.intro (HK8.out.1.keep b9) (And.intro (tail_below HK8.out.2.1 b9) (And.intro (show ∀ y, a5 = some y → 0 < (batS m s os).1.length → AA F3 G3 F4 G4 w9 y.block from fun y hy hp => (HK8.out.2.2.1 y hy hp).later hs9) (And.intro (show ∀ g, v5.ownBlock = some g → AA F3 G3 F4 G4 w9 g from fun g hg => (HK8.out.2.2.2.1 g hg).later hs9) (HK8.out.2.2.2.2.fresh b9)))))
      clear hs9 b9 HK8
      obtain ⟨s', hs'⟩ : ∃ s', batS m s os = s' := ⟨_, rfl⟩
      rw [hs'] at HK9 HSK hc5 ⊢
      clear hs'
      obtain ⟨av, cv, hvs, _⟩ := HK9.out.2.1.shape
      rw [List.length_map] at hvs
      subst hvs
      have L1 := leftAny HK9.out.2.2.2.2.l.co
      go_wp2_with fail
      refine L1.mono ?_
      clear L1
      rintro e w' ⟨rfl, rfl⟩
      have L2 := leftAny HK9.out.2.2.2.2.r.co
      go_wp2_with fail
      refine L2.mono ?_
      clear L2
      rintro e w' ⟨rfl, rfl⟩
      have HS := Lib.hid (Below.refl w9.heap.size w9)
      have hroom2 := HK9.out.2.2.2.2.l.sk.room
      go_wp2_with fail
      generalize wr = wo at *
      go_loopw [20] (fun i wr => ∃ j : Nat, 1 ≤ j ∧ j ≤ 9 ∧ i = .int .i64 j ∧ Below w9.heap.size w9 wr) (fun i _ => 9 - (intOf i).toNat)
      case atStart => exact ⟨1, by omega, by omega, rfl, HS.out⟩
      case round =>
        obtain ⟨j, j1, j9, rfl, hbe⟩ := hrel
        clear HS
        by_cases hlt8 : j ≤ 8
        · have i1 : (j : Int) ≤ 8 := by omega
          have HBE := Lib.hid hbe
          have hll : (lvlOf s'.1 j).length ≤ 1000 := by have := lvl_le (l := s'.1) (k := (j : Int)); omega
          have C := Lib.hid (levelR (HK9.out.2.2.2.2.l.fresh hbe).sk.2 (j : Int))
          clear hbe
          go_wp2_with fail
          refine C.out.mono ?_
          clear C
          rintro e wA ⟨a1, k1, rfl, r1, _, _, bA⟩
          have HBA := Lib.hid (HBE.out.trans (bA.mono HBE.out.size))
          have C := Lib.hid (refLevel wA a5 s'.1.length c5 s'.1 j (HK9.out.1.keep HBA.out) (by omega))
          have HR1 := Lib.hid r1
          clear r1 bA
          go_wp2_with fail
          refine C.out.mono ?_
          clear C
          rintro e wB ⟨a2, k2, rfl, r2, _, _, bB⟩
          have HBB := Lib.hid (HBA.out.trans (bB.mono HBA.out.size))
          have C := Lib.hid (sameEq wB a1 a2 _ k1 k2 _ (HR1.out.keep bB) r2 hll)
          clear r2 bB
          go_wp2_with fail
          refine C.out.mono ?_
          clear C
          rintro e wC ⟨rfl, bC⟩
          have HBC := Lib.hid (HBB.out.trans (bC.mono HBB.out.size))
          have C := Lib.hid (levelR (HK9.out.2.2.2.2.r.fresh HBC.out).sk.2 (j : Int))
          clear bC
          go_wp2_with fail
          refine C.out.mono ?_
          clear C
          rintro e wD ⟨a3, k3, rfl, r3, _, _, bD⟩
          have HBD := Lib.hid (HBC.out.trans (bD.mono HBC.out.size))
          have C := Lib.hid (refLevel wD a5 s'.1.length c5 s'.1 j (HK9.out.1.keep HBD.out) (by omega))
          have HR3 := Lib.hid r3
          clear r3 bD
          go_wp2_with fail
          refine C.out.mono ?_
          clear C
          rintro e wE ⟨a4, k4, rfl, r4, _, _, bE⟩
          have HBE2 := Lib.hid (HBD.out.trans (bE.mono HBD.out.size))
          have C := Lib.hid (sameEq wE a3 a4 _ k3 k4 _ (HR3.out.keep bE) r4 hll)
          clear r4 bE
          go_wp2_with fail
          refine C.out.mono ?_
          clear C
          rintro e wF ⟨rfl, bF⟩
          have HBF := Lib.hid (HBE2.out.trans (bF.mono HBE2.out.size))
          clear bF hll
          go_wp2
          go_roundw
          case rel => exact ⟨j + 1, by omega, by omega, by go_num, HBF.out⟩
          case measure => simp [intOf]; omega
        · obtain rfl : j = 9 := by omega
          clear hlt8
          have HDN := Lib.hid (show DsAt w w.heap.size q1 p2 q2 m (sK m bs os ps (0 + 1)) (.slice a5 s'.1.length c5) (.slice av s'.2.length cv) wr from by
            rw [HSK.out]
            exact ⟨F3, G3, F4, G4, a5, c5, rfl, HK9.out.2.2.2.2.fresh hbe, HK9.out.1.keep hbe, hc5, (fun y hy hp => (HK9.out.2.2.1 y hy hp).later hbe.size), tail_below HK9.out.2.1 hbe, fun g hg => (HK9.out.2.2.2.1 g hg).later hbe.size⟩)
          clear hbe HK9
          go_wp2
          go_roundw
          case rel => exact ⟨0 + 1, by omega, by go_num, HDN.out⟩
          case measure => simp [intOf]
    · obtain ⟨s, hs⟩ : ∃ s, sK m bs os ps 1 = s := ⟨_, rfl⟩
      have HSK := Lib.hid (show sK m bs os ps (1 + 1) = batS m s ps by rw [← hs]; rfl)
      rw [hs] at hr
      clear hs
      obtain ⟨F1, G1, F2, G2, a, c, rfl, hP, hI, hcap, hIA, hT, hTA⟩ := hr
      have hblen := hP.l.co.len
      have hroom := hP.l.sk.room
      have C := refBat11 wr x a s.1.length c _ ab nb cb s.1 s.2 ps hI hcap (by omega) hT hblen (HB.out.keep hP.l.b) (by omega) (by rw [HM.out]; exact hroom.1)
      rw [HM.out] at C
      have HP := Lib.hid hP
      have HOld := Lib.hid (And.intro hIA hTA)
      clear hP hI hcap hIA hT hTA hblen
      go_wp2_with fail
      refine C.mono ?_
      clear C
      rintro e w5 ⟨a5, c5, v5, b5, rfl, i5, hc5, hip5, t5, o5, r5, hb5, bl5⟩
      rw [HLB.out]
      have hs5 := bl5.size
      have hsz := HP.out.l.b.size
      have HA5 := Lib.hid (And.intro (show ∀ y, a5 = some y → 0 < (batS m s ps).1.length → AA F1 G1 F2 G2 w5 y.block from fun y hy hp => by
        rcases (hip5 y hy hp).2 with h | ⟨h0, y0, hy0, e0⟩
        · exact HP.out.young h (i5.lt hp y hy)
        · rw [e0]; exact (HOld.out.1 y0 hy0 h0).later hs5) (show ∀ g, v5.ownBlock = some g → AA F1 G1 F2 G2 w5 g from fun g hg => by rw [o5] at hg; exact (HOld.out.2 g hg).later hs5))
      have HB5 := Lib.hid (HP.out.young (b := w5) hb5 r5.lt)
      have HP5 := Lib.hid (HP.out.fresh bl5)
      have HK5 := Lib.hid (And.intro i5 (And.intro t5 (And.intro r5 hc5)))
      have hoff := HP5.out.l.old (fun hp y e => .inl (HBO.out hp y e)) (n := nb) (ao := ab)
      have C := applyAny HP5.out.l.sk HP5.out.l.co HP5.out.l.ap ab nb cb ps (HB.out.keep HP5.out.l.b) hoff.1 hoff.2 (by omega)
      clear i5 hip5 t5 o5 r5 hb5 bl5 hs5 hsz hoff HP HOld hc5
      go_wp2_with fail
      refine C.mono ?_
      clear C
      rintro e w6 hp
      have hs6 : w5.heap.size ≤ w6.heap.size := by obtain ⟨_, _, _, _, _, _, _, _, _, _, _, hw, _⟩ := hp; exact hw.size
      obtain ⟨g1, F3, G3, rfl, rg1, P6, ag1, hk6⟩ := HP5.out.post hp
      rw [HLB.out]
      obtain ⟨i6, ia6⟩ := items_aside HK5.out.1 HA5.out.1 hs6 hk6
      obtain ⟨t6, ta6⟩ := tail_aside HK5.out.2.1 HA5.out.2 hs6 hk6
      have hb6 := hk6 b5 HB5.out
      have rb6 : RRow w6 b5 (batT 3 m (vals s.1) ps) := hb6.2.trans HK5.out.2.2.1
      have HK6 := Lib.hid (And.intro i6 (And.intro t6 (And.intro ia6 (And.intro ta6 (And.intro hb6.1 (And.intro HK5.out.2.2.2 (And.intro rb6 P6)))))))
      have T1 := rg1.ops
      have T2 := rb6.ops
      have hlt : (batT 3 m (vals s.1) ps).length = nb := by rw [batT_length]; exact HLB.out
      have HLT := Lib.hid hlt
      rw [hlt] at T1 T2
      have C := toldEq w6 (some ⟨g1, 0, none⟩) (some ⟨b5, 0, none⟩) nb nb nb _ T1 T2 (by omega)
      clear hp hs6 rg1 P6 ag1 hk6 i6 ia6 t6 ta6 hb6 rb6 T1 T2 hlt HK5 HA5 HB5 HP5
      go_wp2_with fail
      refine C.mono ?_
      clear C
      rintro e w7 ⟨rfl, b7⟩
      have P7 := (HK6.out.2.2.2.2.2.2.2.fresh b7).swap
      have hs7 := b7.size
      have HK7 := Lib.hid (And.intro (HK6.out.1.keep b7) (And.intro (tail_below HK6.out.2.1 b7) (And.intro (show ∀ y, a5 = some y → 0 < (batS m s ps).1.length → AA F2 G2 F3 G3 w7 y.block from fun y hy hp => ((HK6.out.2.2.1 y hy hp).later hs7).swap) (And.intro (show ∀ g, v5.ownBlock = some g → AA F2 G2 F3 G3 w7 g from fun g hg => ((HK6.out.2.2.2.1 g hg).later hs7).swap) (And.intro ((HK6.out.2.2.2.2.1.later hs7).swap : AA F2 G2 F3 G3 w7 b5) (And.intro (HK6.out.2.2.2.2.2.2.1.below b7) P7))))))
      have hc5 := HK6.out.2.2.2.2.2.1
      have hoff := P7.l.old (fun hp y e => .inl (HBO.out hp y e)) (n := nb) (ao := ab)
      have C := plainAny P7.l.sk P7.l.co P7.l.ap ab nb cb ps (HB.out.keep P7.l.b) hoff.1 hoff.2 (by omega)
      clear P7 hs7 b7 hoff HK6
      go_wp2_with fail
      refine C.mono ?_
      clear C
      rintro e w8 hp
      have hs8 : w7.heap.size ≤ w8.heap.size := by obtain ⟨_, _, _, _, _, _, _, _, _, _, _, hw, _⟩ := hp; exact hw.size
      obtain ⟨g2, F4, G4, rfl, rg2, P8, ag2, hk8⟩ := HK7.out.2.2.2.2.2.2.post hp
      rw [HLB.out]
      obtain ⟨i8, ia8⟩ := items_aside HK7.out.1 HK7.out.2.2.1 hs8 hk8
      obtain ⟨t8, ta8⟩ := tail_aside HK7.out.2.1 HK7.out.2.2.2.1 hs8 hk8
      have rb8 : RRow w8 b5 (batT 3 m (vals s.1) ps) := (hk8 b5 HK7.out.2.2.2.2.1).2.trans HK7.out.2.2.2.2.2.1
      have T1 := rg2.ops
      have T2 := rb8.ops
      rw [HLT.out] at T1 T2
      have HK8 := Lib.hid (And.intro i8 (And.intro t8 (And.intro (show ∀ y, a5 = some y → 0 < (batS m s ps).1.length → AA F3 G3 F4 G4 w8 y.block from fun y hy hp => (ia8 y hy hp).swap) (And.intro (show ∀ g, v5.ownBlock = some g → AA F3 G3 F4 G4 w8 g from fun g hg => (ta8 g hg).swap) P8.swap))))
      have C := toldEq w8 (some ⟨g2, 0, none⟩) (some ⟨b5, 0, none⟩) nb nb nb _ T1 T2 (by omega)
      clear hp hs8 rg2 P8 ag2 hk8 i8 ia8 t8 ta8 rb8 T1 T2 HK7 HLT
      go_wp2_with fail
      refine C.mono ?_
      clear C
      rintro e w9 ⟨rfl, b9⟩
      have hs9 := b9.size
      have HK9 := Lib.hid (And.intro (HK8.out.1.keep b9) (And.intro (tail_below HK8.out.2.1 b9) (And.intro (show ∀ y, a5 = some y → 0 < (batS m s ps).1.length → AA F3 G3 F4 G4 w9 y.block from fun y hy hp => (HK8.out.2.2.1 y hy hp).later hs9) (And.intro (show ∀ g, v5.ownBlock = some g → AA F3 G3 F4 G4 w9 g from fun g hg => (HK8.out.2.2.2.1 g hg).later hs9) (HK8.out.2.2.2.2.fresh b9)))))
      clear hs9 b9 HK8
      obtain ⟨s', hs'⟩ : ∃ s', batS m s ps = s' := ⟨_, rfl⟩
      rw [hs'] at HK9 HSK hc5 ⊢
      clear hs'
      obtain ⟨av, cv, hvs, _⟩ := HK9.out.2.1.shape
      rw [List.length_map] at hvs
      subst hvs
      have L1 := leftAny HK9.out.2.2.2.2.l.co
      go_wp2_with fail
      refine L1.mono ?_
      clear L1
      rintro e w' ⟨rfl, rfl⟩
      have L2 := leftAny HK9.out.2.2.2.2.r.co
      go_wp2_with fail
      refine L2.mono ?_
      clear L2
      rintro e w' ⟨rfl, rfl⟩
      have HS := Lib.hid (Below.refl w9.heap.size w9)
      have hroom2 := HK9.out.2.2.2.2.l.sk.room
      go_wp2_with fail
      generalize wr = wo at *
      go_loopw [20] (fun i wr => ∃ j : Nat, 1 ≤ j ∧ j ≤ 9 ∧ i = .int .i64 j ∧ Below w9.heap.size w9 wr) (fun i _ => 9 - (intOf i).toNat)
      case atStart => exact ⟨1, by omega, by omega, rfl, HS.out⟩
      case round =>
        obtain ⟨j, j1, j9, rfl, hbe⟩ := hrel
        clear HS
        by_cases hlt8 : j ≤ 8
        · have i1 : (j : Int) ≤ 8 := by omega
          have HBE := Lib.hid hbe
          have hll : (lvlOf s'.1 j).length ≤ 1000 := by have := lvl_le (l := s'.1) (k := (j : Int)); omega
          have C := Lib.hid (levelR (HK9.out.2.2.2.2.l.fresh hbe).sk.2 (j : Int))
          clear hbe
          go_wp2_with fail
          refine C.out.mono ?_
          clear C
          rintro e wA ⟨a1, k1, rfl, r1, _, _, bA⟩
          have HBA := Lib.hid (HBE.out.trans (bA.mono HBE.out.size))
          have C := Lib.hid (refLevel wA a5 s'.1.length c5 s'.1 j (HK9.out.1.keep HBA.out) (by omega))
          have HR1 := Lib.hid r1
          clear r1 bA
          go_wp2_with fail
          refine C.out.mono ?_
          clear C
          rintro e wB ⟨a2, k2, rfl, r2, _, _, bB⟩
          have HBB := Lib.hid (HBA.out.trans (bB.mono HBA.out.size))
          have C := Lib.hid (sameEq wB a1 a2 _ k1 k2 _ (HR1.out.keep bB) r2 hll)
          clear r2 bB
          go_wp2_with fail
          refine C.out.mono ?_
          clear C
          rintro e wC ⟨rfl, bC⟩
          have HBC := Lib.hid (HBB.out.trans (bC.mono HBB.out.size))
          have C := Lib.hid (levelR (HK9.out.2.2.2.2.r.fresh HBC.out).sk.2 (j : Int))
          clear bC
          go_wp2_with fail
          refine C.out.mono ?_
          clear C
          rintro e wD ⟨a3, k3, rfl, r3, _, _, bD⟩
          have HBD := Lib.hid (HBC.out.trans (bD.mono HBC.out.size))
          have C := Lib.hid (refLevel wD a5 s'.1.length c5 s'.1 j (HK9.out.1.keep HBD.out) (by omega))
          have HR3 := Lib.hid r3
          clear r3 bD
          go_wp2_with fail
          refine C.out.mono ?_
          clear C
          rintro e wE ⟨a4, k4, rfl, r4, _, _, bE⟩
          have HBE2 := Lib.hid (HBD.out.trans (bE.mono HBD.out.size))
          have C := Lib.hid (sameEq wE a3 a4 _ k3 k4 _ (HR3.out.keep bE) r4 hll)
          clear r4 bE
          go_wp2_with fail
          refine C.out.mono ?_
          clear C
          rintro e wF ⟨rfl, bF⟩
          have HBF := Lib.hid (HBE2.out.trans (bF.mono HBE2.out.size))
          clear bF hll
          go_wp2
          go_roundw
          case rel => exact ⟨j + 1, by omega, by omega, by go_num, HBF.out⟩
          case measure => simp [intOf]; omega
        · obtain rfl : j = 9 := by omega
          clear hlt8
          have HDN := Lib.hid (show DsAt w w.heap.size q1 p2 q2 m (sK m bs os ps (1 + 1)) (.slice a5 s'.1.length c5) (.slice av s'.2.length cv) wr from by
            rw [HSK.out]
            exact ⟨F3, G3, F4, G4, a5, c5, rfl, HK9.out.2.2.2.2.fresh hbe, HK9.out.1.keep hbe, hc5, (fun y hy hp => (HK9.out.2.2.1 y hy hp).later hbe.size), tail_below HK9.out.2.1 hbe, fun g hg => (HK9.out.2.2.2.1 g hg).later hbe.size⟩)
          clear hbe HK9
          go_wp2
          go_roundw
          case rel => exact ⟨1 + 1, by omega, by go_num, HDN.out⟩
          case measure => simp [intOf]
    · obtain ⟨F1, G1, F2, G2, a, c, rfl, hP, _⟩ := hr
      have HBE := Lib.hid (show Below w.heap.size w wr from hP.l.b)
      have C := orderAny wr aa na ca os (HA.out.keep hP.l.b) (by omega)
      clear hP
      go_wp2_with fail
      refine C.mono ?_
      clear C
      rintro e w5 ⟨a5, c5, rfl, r5, _, _, b5⟩
      have HB5 := Lib.hid (HBE.out.trans (b5.mono HBE.out.size))
      have C := refOrder w5 3 aa na ca os (HA.out.keep HB5.out) (by omega)
      have HR5 := Lib.hid r5
      clear r5 b5
      go_wp2_with fail
      refine C.mono ?_
      clear C
      rintro e w6 ⟨a6, c6, rfl, r6, _, b6⟩
      have hl : (ordL 3 os).length = na := by rw [ordL_length]; exact HLA.out
      have r5 := HR5.out.keep b6
      rw [hl] at r5 ⊢
      have C := intsEq w6 a5 a6 na c5 c6 (ordL 3 os) r5 r6 (by omega)
      have HB6 := Lib.hid (HB5.out.trans (b6.mono HB5.out.size))
      clear r5 r6 b6 hl
      go_wp2_with fail
      refine C.mono ?_
      clear C
      rintro e w7 ⟨rfl, b7⟩
      have HB7 := Lib.hid (HB6.out.trans (b7.mono HB6.out.size))
      clear b7
      go_wp2
      go_ret
      exact ⟨rfl, HB7.out⟩

set_option maxRecDepth 100000 in
set_option maxHeartbeats 16000000 in
theorem doesWalk {w : World} (x k : Int) (al : Option Addr) (nl cl : Nat) (xs : List Int) (aa : Option Addr) (na ca : Nat) (os : List (Int × Int)) (ab : Option Addr) (nb cb : Nat) (ps : List (Int × Int)) (ac : Option Addr) (nc cc : Nat) (ys : List Int) (ad : Option Addr) (nd cd : Nat) (zs : List Int) (_ : -9223372036854775808 ≤ x) (_ : x ≤ 9223372036854775807) (k0 : 0 ≤ k) (k1 : k ≤ 255)
    (hx : ArgBytes w al nl cl xs) (hnl : nl ≤ 140737488351232) (ha : ArgOps w aa na ca os) (hna : na ≤ 140737488351232) (hb : ArgOps w ab nb cb ps) (hnb : nb ≤ 140737488351232) (hy : ArgBytes w ac nc cc ys) (hnc : nc ≤ 140737488351232) (hz : ArgBytes w ad nd cd zs) (hnd : nd ≤ 140737488351232) :
    Calls Try.prog 3 #[.int .i64 x, .int .u8 k, .slice al nl cl, .slice aa na ca, .slice ab nb cb, .slice ac nc cc, .slice ad nd cd] w fun e w' => e = .returned (.bool true) ∧ Below w.heap.size w w' := by
  have HX := Lib.hid hx
  have HA := Lib.hid ha
  have HB := Lib.hid hb
  have HY := Lib.hid hy
  have HZ := Lib.hid hz
  clear hx ha hb hy hz
  by_cases h1 : 200 < (nl : Int) + na + nb + nc + nd
  · go_enter Try.func3, Try.ntmps3
    go_wp2_with fail
    refine (known _).mono ?_
    rintro e w1 ⟨rfl, b1⟩
    have HB1 := Lib.hid b1
    clear b1
    go_wp2
    go_ret
    exact ⟨rfl, HB1.out⟩
  · go_enter Try.func3, Try.ntmps3
    go_wp2_with fail
    refine (known _).mono ?_
    rintro e w1 ⟨rfl, b1⟩
    have C := doesAny w1 x al nl cl xs aa na ca os ab nb cb ps (HX.out.1.keep b1) HX.out.2.2.2 (by omega) (HA.out.1.keep b1) (by omega) (HB.out.1.keep b1) (by omega)
    have HB1 := Lib.hid b1
    clear b1
    go_wp2_with fail
    refine C.mono ?_
    clear C
    rintro e w2 ⟨rfl, b2⟩
    have hb2 := HB1.out.trans (b2.mono HB1.out.size)
    have C := opsAny w2 ac nc cc ys 3 (HY.out.1.keep hb2) HY.out.2.2.2 (by omega) (by omega) (by omega)
    have HB2 := Lib.hid hb2
    clear b2 hb2 HB1
    go_wp2_with fail
    refine C.mono ?_
    clear C
    rintro e w3 ⟨ao3, cap3, rfl, o3, _, b3⟩
    have hb3 := HB2.out.trans (b3.mono HB2.out.size)
    have C := opsAny w3 ad nd cd zs 2 (HZ.out.1.keep hb3) HZ.out.2.2.2 (by omega) (by omega) (by omega)
    have HB3 := Lib.hid hb3
    have HO3 := Lib.hid o3
    clear b3 hb3 HB2 o3
    go_wp2_with fail
    refine C.mono ?_
    clear C
    rintro e w4 ⟨ao4, cap4, rfl, o4, _, b4⟩
    have hb4 := HB3.out.trans (b4.mono HB3.out.size)
    have C := doesAny w4 (k % 9) al nl cl xs ao3 _ cap3 _ ao4 _ cap4 _ (HX.out.1.keep hb4) HX.out.2.2.2 (by omega) (HO3.out.keep b4) (by have := opsL_len 3 ys; omega) o4 (by have := opsL_len 2 zs; omega)
    have HB4 := Lib.hid hb4
    clear b4 hb4 HB3 o4
    go_wp2_with fail
    refine C.mono ?_
    clear C
    rintro e w5 ⟨rfl, b5⟩
    have hb5 := HB4.out.trans (b5.mono HB4.out.size)
    have C := opsAny w5 ac nc cc ys 2 (HY.out.1.keep hb5) HY.out.2.2.2 (by omega) (by omega) (by omega)
    have HB5 := Lib.hid hb5
    clear b5 hb5 HB4
    go_wp2_with fail
    refine C.mono ?_
    clear C
    rintro e w6 ⟨ao6, cap6, rfl, o6, _, b6⟩
    have hb6 := HB5.out.trans (b6.mono HB5.out.size)
    have C := doesAny w6 (k % 30) al nl cl xs ao6 _ cap6 _ aa na ca os (HX.out.1.keep hb6) HX.out.2.2.2 (by omega) o6 (by have := opsL_len 2 ys; omega) (HA.out.1.keep hb6) (by omega)
    have HB6 := Lib.hid hb6
    clear b6 hb6 HB5 o6
    go_wp2_with fail
    refine C.mono ?_
    clear C
    rintro e w7 ⟨rfl, b7⟩
    have HB7 := Lib.hid (HB6.out.trans (b7.mono HB6.out.size))
    clear b7
    go_wp2
    go_ret
    exact ⟨rfl, HB7.out⟩

end Go.Proofs.Ytmkpmnmllgdppaa
