/-
  The function ObjectFull returns true: a batch in which nothing is done leaves all as it was; items are never more than may be. Conditions: a list of bytes as it came in.
-/
import Derived.Test.YtniefplgijpckaaGreatKn12m
import Derived.Test.YtniefplgijpckaaGreatFullPl12m
namespace Go.Proofs.YtniefplgijpckaaGreat
open Go.RowKit Go.Lib

set_option maxRecDepth 100000 in
set_option maxHeartbeats 16000000 in
theorem fullWalk {w : World} (kd mv : Int) (al : Option Addr) (nl cl : Nat) (xs : List Int) (nv : Int) (k0 : 0 ≤ kd) (k1 : kd ≤ 255) (m0 : 0 ≤ mv) (m1 : mv ≤ 255) (hx : ArgBytes w al nl cl xs) (hnl : nl ≤ 140737488351232) (n0 : 0 ≤ nv) (n1 : nv ≤ 255) :
    Calls Tryz.prog 8 #[.int .u8 kd, .int .u8 mv, .slice al nl cl, .int .u8 nv] w fun e w' => e = .returned (.bool true) ∧ Below w.heap.size w w' := by
  obtain ⟨i0, hi, hz0, hz1, hz2⟩ := info_parts infoOp
  have HOK := Lib.hid (opsL_ok 2 xs hx.2.2.2 (by omega) (by omega))
  have HLN := Lib.hid (opsL_len 2 xs)
  have HX := Lib.hid hx
  clear hx
  obtain ⟨os, hos⟩ : ∃ os, opsL 2 xs = os := ⟨_, rfl⟩
  rw [hos] at HOK HLN
  have HOS := Lib.hid hos
  clear hos
  obtain ⟨r, hr⟩ : ∃ r, kd % 3 = r := ⟨_, rfl⟩
  obtain ⟨m, hm⟩ : ∃ m : Nat, mv % 6 = m := ⟨(mv % 6).toNat, by omega⟩
  obtain ⟨n, hn⟩ : ∃ n : Nat, nv % 9 = n := ⟨(nv % 9).toNat, by omega⟩
  have hr0 : 0 ≤ r ∧ r ≤ 2 := by omega
  have hm0 : m ≤ 5 := by omega
  have hn9 : n ≤ 8 := by omega
  have hrm : kd.tmod 3 = r := by rw [Int.tmod_eq_emod_of_nonneg k0]; exact hr
  have hmm : mv.tmod 6 = m := by rw [Int.tmod_eq_emod_of_nonneg m0]; exact hm
  have hnm : nv.tmod 9 = n := by rw [Int.tmod_eq_emod_of_nonneg n0]; exact hn
  have hrw2 : IntKind.u8.wrap r = r := by rw [IntKind.wrap_u8]; omega
  have hrw : (1 + r) % 256 = 1 + r := by omega
  have hmw : IntKind.u8.wrap (m : Int) = m := by rw [IntKind.wrap_u8]; omega
  have hmi : IntKind.i64.wrap (m : Int) = m := by rw [IntKind.wrap_i64]; omega
  have hnw : IntKind.u8.wrap (n : Int) = n := by rw [IntKind.wrap_u8]; omega
  have hni : IntKind.i64.wrap (n : Int) = n := by rw [IntKind.wrap_i64]; omega
  have hmo := Lib.hid (mostOf_self (m : Int) (by omega) (by omega))
  have HKD := Lib.hid (show 1 + r = 1 ∨ 1 + r = 2 ∨ 1 + r = 3 by omega)
  have HM := Lib.hid (And.intro hm0 hn9)
  clear hr hm hn hr0 hm0 hn9 k0 k1 m0 m1 n0 n1
  go_enter Tryz.func8, Tryz.ntmps8
  go_wp2_with fail
  refine (obNew (1 + r) m false w HKD.out).mono ?_
  clear hrm hrw hrw2
  generalize 1 + r = k at *
  rintro e w1 hn
  rw [hmo.out] at hn
  obtain ⟨o, F, rfl, P1, b1, hF⟩ := OAt.new (Below.refl _ w) hn
  have HP1 := Lib.hid P1
  have HXX := Lib.hid (HX.out.1.keep b1)
  clear hn P1 b1 hF hmo
  have C := opsAny w1 al nl cl xs 2 HXX.out HX.out.2.2.2 hnl (by decide) (by decide)
  rw [HOS.out] at C
  go_wp2_with fail
  refine C.mono ?_
  clear C
  rintro e w2 ⟨ap, cp, rfl, o2, hn2, b2⟩
  have P2 := HP1.out.fresh b2
  have C := obDo P2.1 ap cp o2 ((HP1.out.clearO o2 hn2).off) HOK.out (Nat.le_trans HLN.out (by decide))
  have HP2 := Lib.hid P2
  clear o2 hn2 b2 P2 HP1
  go_wp2_with fail
  refine C.mono ?_
  clear C
  rintro e w3 hp
  obtain ⟨g3, F3, rfl, _, _, P3, _, _, _⟩ := HP2.out.post hp
  have HP3 := Lib.hid P3
  clear hp P3 HP2
  obtain ⟨s, hs⟩ : ∃ s, objS k (m : Int) (([], []) : List It × List Bool) os = s := ⟨_, rfl⟩
  rw [hs] at HP3
  clear hs
  have C := obItems HP3.out.1
  go_wp2_with fail
  refine C.mono ?_
  clear C
  rintro e w4 ⟨aw, cw, rfl, r4, _, hn4, b4⟩
  have HRM := Lib.hid HP3.out.1.room
  have HVL := Lib.hid (vals_length s.1)
  obtain ⟨L, hL⟩ : ∃ L : Nat, (vals s.1).length = L := ⟨_, rfl⟩
  have HL := Lib.hid (show s.1.length = L by rw [← hL]; exact HVL.out.symm)
  rw [hL] at r4 ⊢
  have HR4 := Lib.hid (And.intro r4 (HP3.out.clear r4 hn4))
  have HP4 := Lib.hid (HP3.out.fresh b4)
  have HLM := Lib.hid (show L ≤ m ∧ L ≤ 1000 by have := HRM.out; have := HL.out; omega)
  have HLV := Lib.hid hL
  clear r4 hn4 b4 hL HP3
  obtain ⟨f, hf⟩ : ∃ f : Bool, decide ((L : Int) = m) = f := ⟨_, rfl⟩
  have HS := Lib.hid (PutAt.none w4)
  have HF := Lib.hid (show f = true → ((vals s.1).length : Int) = m from fun e => by rw [HLV.out]; rw [e] at hf; exact of_decide_eq_true hf)
  go_wp2_with fail
  go_loopw [12, 13] (fun v i wr => ∃ j : Nat, j ≤ n ∧ i = .int .i64 j ∧ PutAt w4 (putL f j) v wr) (fun _ i _ => n - (intOf i).toNat)
  case atStart => exact ⟨0, Nat.zero_le _, rfl, HS.out⟩
  case round =>
    obtain ⟨j, hj, rfl, hr⟩ := hrel
    clear HS
    have HR := Lib.hid hr
    have HPL := Lib.hid (putL_length f j)
    have HNXT := Lib.hid (show putL f (j + 1) = putL f j ++ (9, (j : Int)) :: (if f then [(1, (j : Int))] else []) from rfl)
    clear hr
    by_cases hlt : j < n
    · have i1 : (j : Int) < n := by omega
      have e1 : IntKind.i32.wrap (j : Int) = j := by have := HM.out; rw [IntKind.wrap_i32]; omega
      have hj9 : j ≤ 8 := by have := HM.out; omega
      obtain ⟨pj, hpj⟩ : ∃ pj, putL f j = pj := ⟨_, rfl⟩
      rw [hpj] at HR HPL HNXT
      clear hpj
      have HO1 := Lib.hid (fun o => HR.out.1.alloc o)
      have hsz := HR.out.2.size
      have hpl := HPL.out
      cases f with
      | false =>
        have hne : ¬ L = m := by have := of_decide_eq_false hf; omega
        clear hf
        go_wp2_with (at_builtin; refine wpList_append_later rfl (.tmp 39) (.tmp 43) 36 rfl w4.heap.size 49 i0 _ 2 8 Tryz.underlying36 hi hz0 hz1 hz2 rfl (by decide) _ _ _ rfl (HO1.out _) ⟨_, 0, none⟩ 1 1 [.int .u8 9, .int .i32 (j : Int)] rfl rfl (op_cells _ _ _ _) (op_one _ _) (by simp only [maxLen]; omega) (by omega) (by simp; omega) ?_; intro v2 w2 q2 g2 _; have HN1 := Lib.hid (PutAt.one HR.out q2 g2); clear q2 g2)
        go_roundw
        case rel => exact ⟨j + 1, by omega, by go_num, by rw [HNXT.out]; exact HN1.out⟩
        case measure => simp [intOf]; omega
      | true =>
        obtain rfl : L = m := by have := of_decide_eq_true hf; omega
        clear hf
        go_upto_region 13 with (at_builtin; refine wpList_append_later rfl (.tmp 39) (.tmp 43) 36 rfl w4.heap.size 49 i0 _ 2 8 Tryz.underlying36 hi hz0 hz1 hz2 rfl (by decide) _ _ _ rfl (HO1.out _) ⟨_, 0, none⟩ 1 1 [.int .u8 9, .int .i32 (j : Int)] rfl rfl (op_cells _ _ _ _) (op_one _ _) (by simp only [maxLen]; omega) (by omega) (by simp; omega) ?_; intro v2 w2 q2 g2 _; have HN1 := Lib.hid (PutAt.one HR.out q2 g2); clear q2 g2)
        obtain ⟨qj, hqj⟩ : ∃ q, pj ++ [(9, (j : Int))] = q := ⟨_, rfl⟩
        have hql : qj.length ≤ 17 := by rw [← hqj]; simp; omega
        rw [hqj] at HN1
        have HQ := Lib.hid hqj
        clear hqj hpl hsz
        have HO2 := Lib.hid (fun o => HN1.out.1.alloc o)
        have hsz2 := HN1.out.2.size
        go_wp2_with (at_builtin; refine wpList_append_later rfl (.tmp 51) (.tmp 55) 36 rfl w4.heap.size 49 i0 _ 2 8 Tryz.underlying36 hi hz0 hz1 hz2 rfl (by decide) _ _ _ rfl (HO2.out _) ⟨_, 0, none⟩ 1 1 [.int .u8 1, .int .i32 (j : Int)] rfl rfl (op_cells _ _ _ _) (op_one _ _) (by simp only [maxLen]; omega) (by omega) (by simp; omega) ?_; intro v2 w2 q2 g2 _; have HN2 := Lib.hid (PutAt.one HN1.out q2 g2); clear q2 g2)
        go_roundw
        case rel => exact ⟨j + 1, by omega, by go_num, by rw [HNXT.out]; have h := HN2.out; rw [← HQ.out, List.append_assoc] at h; exact h⟩
        case measure => simp [intOf]; omega
    · obtain rfl : j = n := by omega
      clear hlt HNXT hf i0 hi hz0 hz1 hz2
      obtain ⟨pj, hpj⟩ : ∃ pj, putL f j = pj := ⟨_, rfl⟩
      have HID := Lib.hid (show ∀ o ∈ pj, Idle (m : Int) (vals s.1) o from by rw [← hpj]; exact putL_idle HF.out j)
      have HPO := Lib.hid (show ∀ o ∈ pj, OpOk o from by rw [← hpj]; exact putL_ok f j (by have := HM.out; omega))
      have HPN := Lib.hid (show pj.length ≤ 1000 from by rw [← hpj]; have := HM.out; have := HPL.out; omega)
      rw [hpj] at HR
      clear hpj HPL HF
      obtain ⟨ao, cp2, rfl, op, onew⟩ := opsAt_own HR.out.1
      obtain ⟨N, hN⟩ : ∃ N, pj.length = N := ⟨_, rfl⟩
      have HN := Lib.hid hN
      rw [hN] at op ⊢
      clear hN
      have P5 := HP4.out.fresh HR.out.2
      have C := obDo P5.1 ao cp2 op ((HP4.out.clearO op onew).off) HPO.out (by rw [← HN.out]; exact HPN.out)
      have HP5 := Lib.hid P5
      have HR5 := Lib.hid (And.intro (HR4.out.1.keep HR.out.2) (HR4.out.2.fresh HR.out.2))
      clear P5 op onew HP4 HR4 HR
      go_wp2_with fail
      refine C.mono ?_
      clear C
      rintro e w6 hp
      obtain ⟨g, F6, rfl, rg, _, P6, ng, wr6, l6⟩ := HP5.out.post hp
      have HP6 := Lib.hid P6
      have HR6 := Lib.hid (And.intro (HR5.out.2.reads HR5.out.1 wr6) (HR5.out.2.next wr6 l6))
      have HG6 := Lib.hid rg
      have HV6 := Lib.hid (show vals (objS k (m : Int) s pj).1 = vals s.1 by rw [objS_vals]; exact idle_bat HKD.out HID.out)
      have HTL := Lib.hid (batT_length k (m : Int) (vals s.1) pj)
      rw [HN.out] at HTL ⊢
      clear hp rg P6 ng wr6 l6 HP5 HR5
      go_wp2_with fail
      have hnb : N ≤ 1000 := by rw [← HN.out]; exact HPN.out
      go_loopw [15] (fun i wr => ∃ j : Nat, j ≤ N ∧ i = .int .i64 j ∧ Hid (w6 = wr)) (fun i _ => N - (intOf i).toNat)
      case atStart => exact ⟨0, Nat.zero_le _, rfl, Lib.hid rfl⟩
      case round =>
        obtain ⟨i, hi, rfl, hw6⟩ := hrel
        obtain rfl : w6 = wr := hw6.out
        clear hw6
        by_cases hlt : i < N
        · obtain ⟨c0, c1⟩ := HG6.out.cells (i := i) (by rw [HTL.out]; exact hlt)
          have hcd := idle_told HKD.out HID.out (i := i) (by rw [HN.out]; exact hlt)
          have i1 : (i : Int) < N := by omega
          generalize ((batT k (m : Int) (vals s.1) pj).getD i (0, 0)).1 = c at *
          rcases hcd with rfl | rfl
          · go_wp2
            go_roundw
            case rel => exact ⟨i + 1, by omega, by go_num, Lib.hid trivial⟩
            case measure => simp [intOf]; omega
          · go_wp2
            go_roundw
            case rel => exact ⟨i + 1, by omega, by go_num, Lib.hid trivial⟩
            case measure => simp [intOf]; omega
        · obtain rfl : i = N := by omega
          clear hlt
          go_wp2_with fail
          refine (known w6).mono ?_
          rintro e w7 ⟨rfl, b7⟩
          have HP7 := Lib.hid (HP6.out.fresh b7)
          have HR7 := Lib.hid (HR6.out.1.keep b7)
          clear b7
          have C := obItems HP7.out.1
          rw [HV6.out] at C
          go_wp2_with fail
          refine C.mono ?_
          clear C
          rintro e w8 ⟨a8, c8, rfl, r8, _, _, b8⟩
          rw [HLV.out] at r8 ⊢
          have C := sameEq w8 a8 aw L c8 cw _ r8 (HR7.out.keep b8) HLM.out.2
          have HP8 := Lib.hid (HP7.out.fresh b8)
          clear r8 b8
          go_wp2_with fail
          refine C.mono ?_
          clear C
          rintro e w9 ⟨rfl, b9⟩
          have HP9 := Lib.hid (HP8.out.fresh b9)
          clear b9
          have C := obLen HP9.out.1
          rw [show (objS k (m : Int) s pj).1.length = L by rw [← vals_length, HV6.out]; exact HLV.out] at C
          have hlm := HLM.out.1
          go_wp2_with fail
          refine C.mono ?_
          clear C
          rintro e w9 ⟨rfl, rfl⟩
          have HB := Lib.hid HP9.out.2.1
          go_wp2
          go_ret
          exact ⟨rfl, HB.out⟩

end Go.Proofs.YtniefplgijpckaaGreat
