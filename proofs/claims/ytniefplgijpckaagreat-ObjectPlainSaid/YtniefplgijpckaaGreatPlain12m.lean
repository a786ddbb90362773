/-
  What plain of reaperlaw12 tells: plain or not the same is told, and stays. Conditions: a stack, a deque, a heap; at most a thousand deeds, each of them fine.
-/
import Derived.Test.YtniefplgijpckaaGreatDeB12
namespace Go.Proofs.YtniefplgijpckaaGreat
open Go.RowKit Go.Lib

set_option maxRecDepth 100000 in
set_option maxHeartbeats 32000000 in
theorem plainAny12 (w : World) (k most : Int) (ao : Option Addr) (N cap : Nat) (ds : List Deed12) (hk : k = 1 ∨ k = 2 ∨ k = 3) (hd : DeedsAt w ao N ds) (hf : ∀ x ∈ ds, x.fine w) (hN : N ≤ 1000) :
    Calls Tryz.prog 14 #[.int .u8 k, .int .i64 most, .slice ao N cap] w fun e w' => e = .returned (.bool true) ∧ Below w.heap.size w w' := by
  have HK := Lib.hid hk
  have HD := Lib.hid hd
  have HF := Lib.hid hf
  clear hk hd hf
  go_enter Tryz.func14, Tryz.ntmps14
  go_wp2_with fail
  refine (obNew k most false w HK.out).mono ?_
  rintro e w1 hn
  obtain ⟨o, F, rfl, P1, b1, hF⟩ := OAt.new (Below.refl _ w) hn
  have HP1 := Lib.hid P1
  clear hn P1 b1 hF
  go_wp2_with fail
  refine (obNew k most true w1 HK.out).mono ?_
  rintro e w2 hn
  obtain ⟨q, G, rfl, P2, b2, hG⟩ := OAt.new HP1.out.2.1 hn
  have HS := Lib.hid (HP1.out.two P2 b2 hG)
  clear hn P2 b2 hG HP1
  obtain ⟨m, hm⟩ : ∃ m, mostOf most = m := ⟨_, rfl⟩
  rw [hm] at HS
  clear hm
  go_wp2_with fail
  go_loopw [9] (fun i wr => ∃ (j : Nat) (F G : Nat → Prop) (s : List It × List Bool), j ≤ N ∧ i = .int .i64 j ∧ Hid (Two w F G o q k m k m false true s s wr)) (fun i _ => N - (intOf i).toNat)
  case atStart => exact ⟨0, F, G, _, Nat.zero_le _, rfl, HS⟩
  case round =>
    obtain ⟨j, F, G, s, hj, rfl, HT⟩ := hrel
    clear HS
    by_cases hlt : j < N
    · obtain ⟨b, off, rfl, hbl, hc⟩ := HD.out.2 (by omega)
      have hm : ds.getD j Deed12.no ∈ ds := by have := HD.out.1; simp [List.getD, show j < ds.length by omega]
      have HX := Lib.hid (HF.out _ hm)
      have hcs := hc j hlt
      clear hc hm
      generalize ds.getD j Deed12.no = x at *
      have i1 : (j : Int) < N := by omega
      have HCB := Lib.hid (fun W (hb : Below w.heap.size w W) => And.intro ((hb.cell (p := ⟨b, off + j * 3 + 1, none⟩) hbl).trans (hcs 1 _ rfl)) ((hb.cell (p := ⟨b, off + j * 3 + 2, none⟩) hbl).trans (hcs 2 _ rfl)))
      clear hcs
      have p1 := (HCB.out wr HT.out.c.2.1).1
      have C := obFeed HT.out.c.1 x.bo x.nb x.cb x.bs (HX.out.bs.keep HT.out.c.2.1) HX.out.by' (HT.out.c.old (fun hp y hy => .inl (readsOld HX.out.bs hp y hy))) (Nat.le_trans HX.out.nb (by decide))
      go_wp2_with fail
      refine C.mono ?_
      clear C p1
      rintro e w3 ⟨rfl, d3⟩
      obtain ⟨F3, P3, wr3, l3⟩ := HT.out.c.did d3
      have HT3 := Lib.hid (HT.out.nextC P3 wr3 l3)
      clear d3 P3 wr3 l3 HT
      have p1 := (HCB.out w3 HT3.out.c.2.1).1
      have C := obFeed HT3.out.d.1 x.bo x.nb x.cb x.bs (HX.out.bs.keep HT3.out.c.2.1) HX.out.by' (HT3.out.d.old (fun hp y hy => .inl (readsOld HX.out.bs hp y hy))) (Nat.le_trans HX.out.nb (by decide))
      go_wp2_with fail
      refine C.mono ?_
      clear C p1
      rintro e w4 ⟨rfl, d4⟩
      obtain ⟨G4, P4, wr4, l4⟩ := HT3.out.d.did d4
      have HT4 := Lib.hid (HT3.out.nextD P4 wr4 l4)
      clear d4 P4 wr4 l4 HT3
      generalize feedL s.2 x.bs = bs at *
      have HT5 := Lib.hid (HT4.out.fresh (Below.refl _ _).drew)
      have p2 := (HCB.out w4 HT4.out.c.2.1).2
      have HOK := Lib.hid (fun (W : World) (hb : Below w.heap.size w W) => HX.out.os.keep hb)
      have hna := HX.out.na
      have hxn := HX.out.os.1
      have C1 := Lib.hid (obDo HT5.out.c.1 x.ao x.ca (HOK.out _ HT5.out.c.2.1) (HT5.out.c.old (fun hp y hy => .inl (opsOld HX.out.os hp y hy))) HX.out.ok HX.out.na)
      have HZ := Lib.hid (objS_vals k m (s.1, bs) x.os)
      obtain ⟨s', hs'⟩ : ∃ s', objS k m (s.1, bs) x.os = s' := ⟨_, rfl⟩
      have HSN := Lib.hid hs'
      clear hs' HT4
      go_wp2
      go_region_held3 (fun w' => w'.cell? ⟨b, off + j * 3 + 2, none⟩ = some (.slice x.ao x.na x.ca)) (first | exact p2 | exact z1 | exact z2 | exact z3 | exact z4 | exact z5 | exact z6) (first
        | ((with_reducible refine C6.out.mono ?_); rintro e w11 ⟨rfl, b11⟩; have T6 := Lib.hid (T5.out.fresh b11); have z6 := (HCB.out w11 T6.out.c.2.1).2; clear b11)
        | ((with_reducible refine C5.out.mono ?_); rintro e w10 ⟨a10, c10, rfl, r10, _, _, b10⟩; have T5 := Lib.hid (T4.out.fresh b10); have z5 := (HCB.out w10 T5.out.c.2.1).2; have C6 := Lib.hid (sameEq w10 a9 a10 (vals s'.1).length c9 c10 (vals s'.1) (R4.out.keep b10) r10 (by have := T4.out.c.1.room; rw [vals_length]; omega)); clear r10 b10)
        | ((with_reducible refine C4.out.mono ?_); rintro e w9 ⟨a9, c9, rfl, r9, _, _, b9⟩; have T4 := Lib.hid (T3.out.fresh b9); have R4 := Lib.hid r9; have z4 := (HCB.out w9 T4.out.c.2.1).2; have C5 := Lib.hid (obItems T4.out.d.1); clear r9 b9)
        | ((with_reducible refine C3.out.mono ?_); rintro e w8 ⟨rfl, b8⟩; have T3 := Lib.hid (T2.out.fresh b8); have z3 := (HCB.out w8 T3.out.c.2.1).2; have C4 := Lib.hid (obItems T3.out.c.1); clear b8)
        | ((with_reducible refine C2.out.mono ?_); rintro e w7 hp; obtain ⟨g7, G7, rfl, rg7, _, P7, _, wr7, l7⟩ := T1.out.d.post hp; rw [HSN.out] at P7; have T2 := Lib.hid (T1.out.nextD P7 wr7 l7); have z2 := (HCB.out w7 T2.out.c.2.1).2; have C3 := Lib.hid (toldEq w7 (some ⟨g6, 0, none⟩) (some ⟨g7, 0, none⟩) x.na x.na x.na (batT k m (vals s.1) x.os) (by have h := (row_kept R1.out.1 R1.out.2 wr7).ops; rw [batT_length, HX.out.os.1] at h; exact h) (by have h := rg7.ops; rw [batT_length, HX.out.os.1] at h; exact h) HX.out.na); clear hp rg7 P7 wr7 l7)
        | ((with_reducible refine C1.out.mono ?_); rintro e w6 hp; obtain ⟨g6, F6, rfl, rg6, hg6, P6, _, wr6, l6⟩ := HT5.out.c.post hp; rw [HSN.out] at P6; have T1 := Lib.hid (HT5.out.nextC P6 wr6 l6); have R1 := Lib.hid (And.intro rg6 (show ¬ G4 g6 from fun e => by have := HT5.out.d.lt _ e; omega)); have z1 := (HCB.out w6 T1.out.c.2.1).2; have C2 := Lib.hid (obDo T1.out.d.1 x.ao x.ca (HOK.out _ T1.out.c.2.1) (T1.out.d.old (fun hp y hy => .inl (opsOld HX.out.os hp y hy))) HX.out.ok HX.out.na); clear hp rg6 hg6 P6 wr6 l6))
      have HSL := Lib.hid (show s'.1.length ≤ 1000 by have := T6.out.c.1.room; omega)
      clear C1 C2 C3 C4 C5 C6 T1 T2 T3 T4 T5 R1 R4 z1 z2 z3 z4 z5 z6 p2 HZ HSN HT5 hna hxn HOK HCB HX
      go_wp2_with fail
      go_loopw [10] (fun i wi => ∃ jj : Nat, 1 ≤ jj ∧ jj ≤ 9 ∧ i = .int .i64 jj ∧ Hid (Two w F6 G7 o q k m k m false true s' s' wi)) (fun i _ => 9 - (intOf i).toNat)
      case atStart => exact ⟨1, by omega, by omega, rfl, T6⟩
      case round =>
        obtain ⟨jj, h1, h9, rfl, HT⟩ := hrel
        clear T6
        by_cases hl8 : jj ≤ 8
        · have i8 : (jj : Int) ≤ 8 := by omega
          obtain ⟨zs, hzs⟩ : ∃ zs, lvls k s'.1 jj = zs := ⟨_, rfl⟩
          have HZL := Lib.hid (show zs.length ≤ 1000 by rw [← hzs]; exact lvls_len HSL.out)
          have HZS := Lib.hid (show (if k = 3 then lvlOf s'.1 jj else []) = zs from hzs)
          have C := obLevel HT.out.c.1 jj
          rw [HZS.out] at C
          clear hzs
          go_wp2_with fail
          refine C.mono ?_
          clear C
          rintro e w12 ⟨a12, c12, rfl, r12, _, _, b12⟩
          have T12 := Lib.hid (HT.out.fresh b12)
          have R12 := Lib.hid r12
          have C := obLevel T12.out.d.1 jj
          rw [HZS.out] at C
          clear r12 b12 HT
          go_wp2_with fail
          refine C.mono ?_
          clear C
          rintro e w13 ⟨a13, c13, rfl, r13, _, _, b13⟩
          have T13 := Lib.hid (T12.out.fresh b13)
          have C := sameEq w13 a12 a13 zs.length c12 c13 zs (R12.out.keep b13) r13 HZL.out
          clear r13 b13 T12 R12
          go_wp2_with fail
          refine C.mono ?_
          clear C
          rintro e w14 ⟨rfl, b14⟩
          have T14 := Lib.hid (T13.out.fresh b14)
          clear b14 T13
          go_wp2
          go_roundw
          case rel => exact ⟨jj + 1, by omega, by omega, by go_num, T14⟩
          case measure => simp [intOf]; omega
        · obtain rfl : jj = 9 := by omega
          clear hl8
          go_wp2
          go_roundw
          case rel => exact ⟨j + 1, F6, G7, s', by omega, by go_num, HT⟩
          case measure => simp [intOf]; omega
    · obtain rfl : j = N := by omega
      have HB := Lib.hid HT.out.c.2.1
      clear HT hlt
      go_wp2
      go_ret
      exact ⟨rfl, HB.out⟩

end Go.Proofs.YtniefplgijpckaaGreat
