/-
  What does of reaperlaw12 tells: two objects and the document's one, deed by deed, alike. Conditions: a stack, a deque, a heap; at most a thousand deeds, each of them fine.
-/
import Derived.Test.YtniefplgijpckaaGreatDoF12
namespace Go.Proofs.YtniefplgijpckaaGreat
open Go.RowKit Go.Lib

set_option maxRecDepth 100000 in
set_option maxHeartbeats 32000000 in
theorem doesAny12 (w : World) (k most : Int) (ao : Option Addr) (N cap : Nat) (ds : List Deed12) (hk : k = 1 ∨ k = 2 ∨ k = 3) (hd : DeedsAt w ao N ds) (hf : ∀ x ∈ ds, x.fine w) (hN : N ≤ 1000) :
    Calls Tryz.prog 11 #[.int .u8 k, .int .i64 most, .slice ao N cap] w fun e w' => e = .returned (.bool true) ∧ Below w.heap.size w w' := by
  have HK := Lib.hid hk
  have HD := Lib.hid hd
  have HF := Lib.hid hf
  clear hk hd hf
  go_enter Tryz.func11, Tryz.ntmps11
  go_wp2_with fail
  refine (obNew k most false w HK.out).mono ?_
  rintro e w1 hn
  obtain ⟨o, F, rfl, P1, b1, hF⟩ := OAt.new (Below.refl _ w) hn
  have HP1 := Lib.hid P1
  clear hn P1 b1 hF
  go_wp2_with fail
  refine (obNew k most true w1 HK.out).mono ?_
  rintro e w2 hn
  obtain ⟨q, G, rfl, P2, b2, hG⟩ := OAt.new HP1.out.2.1 hn
  have HS := Lib.hid (HP1.out.two P2 b2 hG)
  clear hn P2 b2 hG HP1
  obtain ⟨m, hm⟩ : ∃ m, mostOf most = m := ⟨_, rfl⟩
  rw [hm] at HS
  have HM := Lib.hid hm
  clear hm
  go_upto_region 6 with (fail)
  have HDO := Lib.hid (Doc.new (k := k) (m := most) HS.out.c.2.1.size HS.out.c.lt HS.out.d.lt)
  have HS0 := Lib.hid (HS.out.fresh ((Below.refl w2.heap.size w2).alloc (Nat.le_refl _) (.cells #[.int .u8 k, .int .i64 most, .slice none 0 0, .slice none 0 0] 58)))
  clear HS
  generalize w2.alloc (.cells #[.int .u8 k, .int .i64 most, .slice none 0 0, .slice none 0 0] 58) = W at *
  generalize w2.heap.size = g at *
  go_wp2_with fail
  go_loopw [7, 8, 10] (fun ov qv i wr => ∃ (j o q : Nat) (F G : Nat → Prop) (s : List It × List Bool) (ai : Option Addr) (ci : Nat) (ba : Option Addr) (bc : Nat), j ≤ N ∧ ov = .pointer (some ⟨o, 0, none⟩) ∧ qv = .pointer (some ⟨q, 0, none⟩) ∧ i = .int .i64 j ∧ Hid (Two w F G o q k m k m false true s s wr) ∧ Hid (Doc w F G g k most s ai ci (.slice ba s.2.length bc) wr)) (fun _ _ i _ => N - (intOf i).toNat)
  case atStart => exact ⟨0, o, q, F, G, _, _, _, _, _, Nat.zero_le _, rfl, rfl, rfl, HS0, HDO⟩
  case round =>
    obtain ⟨j, o, q, F, G, s, ai, ci, ba, bc, hj, rfl, rfl, rfl, HT, HO⟩ := hrel
    clear HS0 HDO
    by_cases hlt : j < N
    · obtain ⟨b, off, rfl, hbl, hc⟩ := HD.out.2 (by omega)
      have hm : ds.getD j Deed12.no ∈ ds := by have := HD.out.1; simp [List.getD, show j < ds.length by omega]
      have HX := Lib.hid (HF.out _ hm)
      have hcs := hc j hlt
      clear hc hm
      generalize ds.getD j Deed12.no = x at *
      have i1 : (j : Int) < N := by omega
      have HCB := Lib.hid (fun W (hb : Below w.heap.size w W) => And.intro ((hb.cell (p := ⟨b, off + j * 3, none⟩) hbl).trans (hcs 0 _ rfl)) (And.intro ((hb.cell (p := ⟨b, off + j * 3 + 1, none⟩) hbl).trans (hcs 1 _ rfl)) ((hb.cell (p := ⟨b, off + j * 3 + 2, none⟩) hbl).trans (hcs 2 _ rfl))))
      clear hcs
      have p0 := (HCB.out wr HT.out.c.2.1).1
      obtain ⟨kk, hkk⟩ : ∃ kk, x.k % 8 = kk := ⟨_, rfl⟩
      have hx0 := HX.out.k
      have hkm : x.k.tmod 8 = kk := by rw [Int.tmod_eq_emod_of_nonneg hx0.1]; exact hkk
      have hkw : IntKind.u8.wrap kk = kk := by rw [IntKind.wrap_u8]; omega
      clear hx0 hkk
      go_upto_region 9 with (fail)
      go_cut [39] from 34 to 38 (fun i wx => i = .int .u8 kk ∧ Hid (wr = wx))
      case first =>
        go_wp2
        go_meet
        exact ⟨rfl, Lib.hid rfl⟩
      case' rest => skip
      obtain ⟨rfl, hwx⟩ := hcut
      obtain rfl : wr = wc := hwx.out
      clear hwx p0 hkm hkw
      rename_i hK1
      refine hK1 _ _ ?_
      clear hK1
      go_cut [7, 8, 11, 12] from 40 to 101 (fun ov qv xv tv wx => ∃ (o q : Nat) (F G : Nat → Prop) (s : List It × List Bool) (ai : Option Addr) (ci : Nat) (ba : Option Addr) (bc : Nat), ov = .pointer (some ⟨o, 0, none⟩) ∧ qv = .pointer (some ⟨q, 0, none⟩) ∧ Hid (Two w F G o q k m k m false true s s wx) ∧ Hid (Doc w F G g k most s ai ci (.slice ba s.2.length bc) wx))
      case first =>
        by_cases hk0 : kk = 0
        · subst hk0
          have HBI := Lib.hid HT.out.c.1.bits
          have p1 := (HCB.out wr HT.out.c.2.1).2.1
          have C := obFeed HT.out.c.1 x.bo x.nb x.cb x.bs (HX.out.bs.keep HT.out.c.2.1) HX.out.by' (HT.out.c.old (fun hp y hy => .inl (readsOld HX.out.bs hp y hy))) (Nat.le_trans HX.out.nb (by decide))
          go_wp2_with fail
          refine C.mono ?_
          clear C p1
          rintro e w3 ⟨rfl, d3⟩
          obtain ⟨F3, P3, wr3, l3⟩ := HT.out.c.did d3
          have HO3 := Lib.hid (HO.out.nextC wr3 l3)
          have HT3 := Lib.hid (HT.out.nextC P3 wr3 l3)
          clear d3 P3 wr3 l3 HT HO
          have p1 := (HCB.out w3 HT3.out.c.2.1).2.1
          have C := obFeed HT3.out.d.1 x.bo x.nb x.cb x.bs (HX.out.bs.keep HT3.out.c.2.1) HX.out.by' (HT3.out.d.old (fun hp y hy => .inl (readsOld HX.out.bs hp y hy))) (Nat.le_trans HX.out.nb (by decide))
          go_wp2_with fail
          refine C.mono ?_
          clear C p1
          rintro e w4 ⟨rfl, d4⟩
          obtain ⟨G4, P4, wr4, l4⟩ := HT3.out.d.did d4
          have HO4 := Lib.hid (HO3.out.nextD wr4 l4)
          have HT4 := Lib.hid (HT3.out.nextD P4 wr4 l4)
          clear d4 P4 wr4 l4 HT3 HO3
          have HOF := Lib.hid (HO4.out.fresh (Below.refl _ _).drew)
          have HTF := Lib.hid (HT4.out.fresh (Below.refl _ _).drew)
          have p1 := (HCB.out w4 HT4.out.c.2.1).2.1
          have C := Lib.hid (refOFeed w4.drew k most ai s.1.length ci (.slice ba s.2.length bc) s.2 x.bo x.nb x.cb x.bs HOF.out.t HBI.out (HX.out.bs.keep HTF.out.c.2.1) HX.out.by' (Nat.le_trans HX.out.nb (by decide)))
          have c0 := HO4.out.b.c0
          have c1 := HO4.out.b.c1
          have c2 := HO4.out.b.c2
          have c3 := HO4.out.b.c3
          go_upto_region 17 with (fail)
          first
            | (go_region_with (go_at_call 26; refine C.out.mono ?_; rintro e w5 ⟨v5, rfl, f5⟩; obtain ⟨va, vc, rfl⟩ := tail_shape f5.1; rw [List.length_map] at f5 ⊢; have HE := Lib.hid (And.intro ((HTF.out.fresh f5.2.1).box (wrote4 w5 g (.int .u8 k) (.int .i64 most) (.slice ai s.1.length ci) (.slice va (feedL s.2 x.bs).length vc)) HOF.out.pg) (HOF.out.feed HTF.out.c.lt HTF.out.d.lt f5)); obtain ⟨b0, b1, b2, b3, bf⟩ := (HOF.out.b.keep f5.2.1).five; clear f5))
            | fail "region 17"
          all_goals
            go_wp2
            go_meet
            exact ⟨_, _, _, _, _, _, _, _, _, rfl, rfl, Lib.hid HE.out.1, Lib.hid HE.out.2⟩
        · by_cases hk1 : kk = 1
          · subst hk1
            clear hk0
            go_wp2_with fail
            refine (obCopy HT.out.c.1).mono ?_
            rintro e w3 hn
            obtain ⟨o3, F3, rfl, P3, b3, hF3⟩ := OAt.new HT.out.c.2.1 hn
            have HT3 := Lib.hid (HT.out.d.two P3 b3 hF3).swap
            have HO3 := Lib.hid (HO.out.nextC (Wrote.of b3 F) (fun y hy => .inr (hF3 y hy)))
            clear hn P3 b3 hF3 HT HO
            go_wp2_with fail
            refine (obCopy HT3.out.d.1).mono ?_
            rintro e w4 hn
            obtain ⟨q4, G4, rfl, P4, b4, hG4⟩ := OAt.new HT3.out.c.2.1 hn
            have HT4 := Lib.hid (HT3.out.c.two P4 b4 hG4)
            have HO4 := Lib.hid (HO3.out.nextD (Wrote.of b4 G) (fun y hy => .inr (hG4 y hy)))
            clear hn P4 b4 hG4 HT3 HO3
            go_wp2
            go_meet
            exact ⟨_, _, _, _, _, _, _, _, _, rfl, rfl, HT4, HO4⟩
          · have hb0 : (kk == (0 : Int)) = false := beq_eq_false_iff_ne.2 hk0
            have hb1 : (kk == (1 : Int)) = false := beq_eq_false_iff_ne.2 hk1
            obtain ⟨s', hs'⟩ : ∃ s', objS k m s x.os = s' := ⟨_, rfl⟩
            obtain ⟨rs, hrs⟩ : ∃ rs, batT k m (vals s.1) x.os = rs := ⟨_, rfl⟩
            have HSN := Lib.hid (And.intro hs' hrs)
            clear hs' hrs
            have HL := Lib.hid (show s.1.length ≤ 1000 by have := HT.out.c.1.room; omega)
            have HC := Lib.hid (fun W (hb : Below wr.heap.size wr W) => (refODo W k most ai s.1.length ci (.slice ba s.2.length bc) s x.ao x.na x.ca x.os (HO.out.i.keep hb) HO.out.le HL.out (tail_below HO.out.t hb) HT.out.c.1.bits (HX.out.os.keep (HT.out.c.2.1.trans (hb.mono HT.out.c.2.1.size))) HX.out.ok HX.out.na (by rw [HM.out]; exact HT.out.c.1.room.1)).mono fun e w' h => RODo.shape (s' := s') (rs := rs) h (by rw [HM.out]; exact HSN.out.1) (by rw [HM.out]; exact HSN.out.2) HX.out.os.1)
            have c0 := HO.out.b.c0
            have c1 := HO.out.b.c1
            have c2 := HO.out.b.c2
            have c3 := HO.out.b.c3
            have p2 := (HCB.out wr HT.out.c.2.1).2.2
            go_upto_region 10 with (fail)
            go_cut [11, 12] from 40 to 49 (fun xv tv wx => ∃ (y b : Nat) (a : Option Addr) (c : Nat) (va : Option Addr) (vc : Nat), xv = .pointer (some ⟨y, 0, none⟩) ∧ tv = .slice (some ⟨b, 0, none⟩) x.na x.na ∧ Hid (ROB wx y k most (.slice a s'.1.length c) (.slice va s'.2.length vc)) ∧ Hid (Res12 wr ai (Value.slice ba s.2.length bc).ownBlock s s' rs b a c va vc wx))
            case first =>
              have hne : g ≠ wr.heap.size := Nat.ne_of_lt HO.out.b.lt
              have hnd : b ≠ wr.heap.size := by have := HT.out.c.2.1.size; omega
              have hbd : Below wr.heap.size wr wr.drew := (Below.refl _ _).drew
              have hba : ∀ o, Below wr.heap.size wr (wr.alloc o).drew := fun o => ((Below.refl _ _).alloc (Nat.le_refl _) o).drew
              have HPL := Lib.hid (And.intro (show 0 < s.1.length → ∀ y, ai = some y → y.block < wr.heap.size from HO.out.i.lt) (show ∀ y, (Value.slice ba s.2.length bc).ownBlock = some y → y < wr.heap.size from fun y hy => HO.out.t.lt hy))
              have HKE := Lib.hid (fun W (hb : Below wr.heap.size wr W) => And.intro (HO.out.b.keep hb).c0 (And.intro (HO.out.b.keep hb).c1 (And.intro (HO.out.b.keep hb).c2 (And.intro (HO.out.b.keep hb).c3 (HCB.out W (HT.out.c.2.1.trans (hb.mono HT.out.c.2.1.size))).2.2))))
              go_wp2
              go_region_held3 (fun w' => w'.cell? ⟨g, 0, none⟩ = some (.int .u8 k) ∧ w'.cell? ⟨g, 1, none⟩ = some (.int .i64 most) ∧ w'.cell? ⟨g, 2, none⟩ = some (.slice ai s.1.length ci) ∧ w'.cell? ⟨g, 3, none⟩ = some (.slice ba s.2.length bc) ∧ w'.cell? ⟨b, off + j * 3 + 2, none⟩ = some (.slice x.ao x.na x.ca)) (first
                | with_reducible exact ⟨x0, x1, x2, x3, x4⟩
                | with_reducible exact ⟨cellNew x0 _, cellNew x1 _, cellNew x2 _, cellNew x3 _, cellNew x4 _⟩
                | with_reducible exact ⟨cellOther _ hne (cellOther _ hne (cellOther _ hne (cellOther _ hne x0))), cellOther _ hne (cellOther _ hne (cellOther _ hne (cellOther _ hne x1))), cellOther _ hne (cellOther _ hne (cellOther _ hne (cellOther _ hne x2))), cellOther _ hne (cellOther _ hne (cellOther _ hne (cellOther _ hne x3))), cellOther _ hnd (cellOther _ hnd (cellOther _ hnd (cellOther _ hnd x4)))⟩
                | exact ⟨c0, c1, c2, c3, p2⟩
                | exact ⟨cellNew c0 _, cellNew c1 _, cellNew c2 _, cellNew c3 _, cellNew p2 _⟩)
                ((go_at_call 27; first
                  | (refine (HC.out _ hbd).mono ?_; rintro e w3 hp; obtain ⟨a3, l3, va, vc, b3, rfl, hp⟩ := hp; have HP := Lib.hid (Res12.late hbd hp k most); obtain ⟨x0, x1, x2, x3, x4⟩ := HKE.out w3 (hbd.trans (hp.be.mono hbd.size)); clear hp)
                  | (refine (HC.out _ (hba _)).mono ?_; rintro e w3 hp; obtain ⟨a3, l3, va, vc, b3, rfl, hp⟩ := hp; have HP := Lib.hid (Res12.soon _ rfl rfl hp HPL.out.1 HPL.out.2 k most); obtain ⟨x0, x1, x2, x3, x4⟩ := HKE.out w3 ((hba _).trans (hp.be.mono (hba _).size)); obtain ⟨y0, y1, y2, y3, yf⟩ := (ROB.four _ rfl rfl hp.be).five; have f0 := yf 0; have f1 := yf 1; have f2 := yf 2; have f3 := yf 3; clear hp)))
              all_goals
                go_wp2
                go_meet
                exact ⟨_, _, _, _, _, _, rfl, rfl, Lib.hid HP.out.1, Lib.hid HP.out.2⟩
            case' rest => skip
            obtain ⟨y, br, a, c, va, vc, rfl, rfl, HR, HRS⟩ := hcut
            clear c0 c1 c2 c3 p2 HC
            obtain ⟨b0, b1, b2, b3, bf⟩ := (HO.out.b.keep HRS.out.be).five
            have d0 := HR.out.c0
            have d1 := HR.out.c1
            have d2 := HR.out.c2
            have d3 := HR.out.c3
            have HNB := Lib.hid (show ¬ F br ∧ ¬ G br from ⟨fun e => by have := HT.out.c.lt _ e; have := HRS.out.hb; omega, fun e => by have := HT.out.d.lt _ e; have := HRS.out.hb; omega⟩)
            have HE := Lib.hid (And.intro ((HT.out.fresh HRS.out.be).box (wrote4 wc g (.int .u8 k) (.int .i64 most) (.slice a s'.1.length c) (.slice va s'.2.length vc)) HO.out.pg) (And.intro (HO.out.store (s2 := s') HT.out.c.lt HT.out.d.lt HRS.out.be HRS.out.i HRS.out.le HRS.out.t (fun hp y hy => HRS.out.p y hy hp) (fun z hz => .inr (by rw [← HRS.out.v]; exact hz))) (row_kept HRS.out.r (F := fun z => z = g) (fun e => by have e' : br = g := e; have := HRS.out.hb; have := HO.out.b.lt; omega) (wrote4 wc g (.int .u8 k) (.int .i64 most) (.slice a s'.1.length c) (.slice va s'.2.length vc)))))
            go_upto_region 12 with (fail)
            clear b0 b1 b2 b3 bf d0 d1 d2 d3 HR HRS HT HO
            generalize (((wc.setCell ⟨g, 0, none⟩ (.int .u8 k)).setCell ⟨g, 1, none⟩ (.int .i64 most)).setCell ⟨g, 2, none⟩ (.slice a s'.1.length c)).setCell ⟨g, 3, none⟩ (.slice va s'.2.length vc) = W3 at *
            have HRL := Lib.hid (show rs.length = x.na by rw [← HSN.out.2, batT_length]; exact HX.out.os.1)
            have hxn := HX.out.os.1
            have p2 := (HCB.out W3 HE.out.1.c.2.1).2.2
            have C := obDo HE.out.1.c.1 x.ao x.ca (HX.out.os.keep HE.out.1.c.2.1) (HE.out.1.c.old (fun hp y hy => .inl (opsOld HX.out.os hp y hy))) HX.out.ok HX.out.na
            go_wp2_with fail
            refine C.mono ?_
            clear C p2
            rintro e w6 hp
            obtain ⟨g6, F6, he, rg6, _, P6, _, wr6, l6⟩ := HE.out.1.c.post hp
            rw [hxn] at he
            subst he
            rw [HSN.out.1] at P6
            rw [HSN.out.2] at rg6
            have T6 := Lib.hid (HE.out.1.nextC P6 wr6 l6)
            have D6 := Lib.hid (HE.out.2.1.nextC wr6 l6)
            have R6 := Lib.hid (row_kept HE.out.2.2 HNB.out.1 wr6)
            have C := toldEq w6 (some ⟨g6, 0, none⟩) (some ⟨br, 0, none⟩) x.na x.na x.na rs (by have h := rg6.ops; rw [HRL.out] at h; exact h) (by have h := R6.out.ops; rw [HRL.out] at h; exact h) HX.out.na
            clear hp rg6 P6 wr6 l6 HE
            go_wp2_with fail
            refine C.mono ?_
            clear C
            rintro e w7 ⟨rfl, b7⟩
            have T7 := Lib.hid (T6.out.fresh b7)
            have D7 := Lib.hid (D6.out.fresh b7)
            have R7 := Lib.hid (R6.out.below b7)
            clear b7 T6 D6 R6
            have p2 := (HCB.out w7 T7.out.c.2.1).2.2
            have C := obDo T7.out.d.1 x.ao x.ca (HX.out.os.keep T7.out.c.2.1) (T7.out.d.old (fun hp y hy => .inl (opsOld HX.out.os hp y hy))) HX.out.ok HX.out.na
            go_wp2_with fail
            refine C.mono ?_
            clear C p2
            rintro e w8 hp
            obtain ⟨g8, G8, he, rg8, _, P8, _, wr8, l8⟩ := T7.out.d.post hp
            rw [hxn] at he
            subst he
            rw [HSN.out.1] at P8
            rw [HSN.out.2] at rg8
            have T8 := Lib.hid (T7.out.nextD P8 wr8 l8)
            have D8 := Lib.hid (D7.out.nextD wr8 l8)
            have R8 := Lib.hid (row_kept R7.out HNB.out.2 wr8)
            have C := toldEq w8 (some ⟨g8, 0, none⟩) (some ⟨br, 0, none⟩) x.na x.na x.na rs (by have h := rg8.ops; rw [HRL.out] at h; exact h) (by have h := R8.out.ops; rw [HRL.out] at h; exact h) HX.out.na
            clear hp rg8 P8 wr8 l8 T7 D7 R7
            go_wp2_with fail
            refine C.mono ?_
            clear C
            rintro e w9 ⟨rfl, b9⟩
            have T9 := Lib.hid (T8.out.fresh b9)
            have D9 := Lib.hid (D8.out.fresh b9)
            clear b9 T8 D8 R8
            go_wp2
            go_meet
            exact ⟨_, _, _, _, _, _, _, _, _, rfl, rfl, T9, D9⟩
      case' rest => skip
      obtain ⟨o, q, F, G, s, ai, ci, ba, bc, rfl, rfl, HT, HO⟩ := hcut
      have c0 := HO.out.b.c0
      have c1 := HO.out.b.c1
      have c2 := HO.out.b.c2
      have c3 := HO.out.b.c3
      have HL := Lib.hid (show s.1.length ≤ 1000 by have := HT.out.c.1.room; omega)
      have C := alikeAny HT.out.c.1 most ai s.1.length ci (.slice ba s.2.length bc) HO.out.i HL.out
      go_wp2_with fail
      refine C.mono ?_
      clear C c0 c1 c2 c3
      rintro e w8 ⟨rfl, b8⟩
      have HT8 := Lib.hid (HT.out.fresh b8)
      have HO8 := Lib.hid (HO.out.fresh b8)
      have c0 := HO8.out.b.c0
      have c1 := HO8.out.b.c1
      have c2 := HO8.out.b.c2
      have c3 := HO8.out.b.c3
      have C := alikeAny HT8.out.d.1 most ai s.1.length ci (.slice ba s.2.length bc) HO8.out.i HL.out
      clear b8 HT HO
      go_wp2_with fail
      refine C.mono ?_
      clear C c0 c1 c2 c3
      rintro e w9 ⟨rfl, b9⟩
      have HT9 := Lib.hid (HT8.out.fresh b9)
      have HO9 := Lib.hid (HO8.out.fresh b9)
      clear b9 HT8 HO8
      go_wp2
      go_roundw
      case rel => exact ⟨j + 1, o, q, F, G, s, ai, ci, ba, bc, by omega, rfl, rfl, by go_num, HT9, HO9⟩
      case measure => simp [intOf]; omega
    · obtain rfl : j = N := by omega
      have HB := Lib.hid HT.out.c.2.1
      clear HT hlt
      go_wp2
      go_ret
      exact ⟨rfl, HB.out⟩

end Go.Proofs.YtniefplgijpckaaGreat
