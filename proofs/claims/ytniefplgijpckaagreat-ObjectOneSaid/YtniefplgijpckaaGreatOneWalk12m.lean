/-
  The function ObjectOne returns true: batches of one operation each are as definition has these, one behind the other, plain or not. Conditions: a list of bytes as it came in.
-/
import Derived.Test.YtniefplgijpckaaGreatKn12m
import Derived.Test.YtniefplgijpckaaGreatRefC12
namespace Go.Proofs.YtniefplgijpckaaGreat
open Go.RowKit Go.Lib

theorem opLit1 (w : World) (a b : Int) : OpsAt (w.alloc (.cells #[.int .u8 a, .int .i32 b] 49)) (some ⟨w.heap.size, 0, none⟩) 1 [(a, b)] := by
  refine ⟨rfl, fun _ => ⟨_, _, rfl, by simp, fun i hi => ?_⟩⟩
  obtain rfl : i = 0 := by omega
  simp

/-- In the midst of it: the object, the operations, what is awaited. -/
def OneAt (w : World) (o : Nat) (k m : Int) (pl : Bool) (os : List (Int × Int)) (n : Nat) (ap at' as' : Option Addr) (nz j : Nat) (wr : World) : Prop :=
  ∃ F s, OAt w F o k m pl s wr ∧ vals s.1 = runZ k m [] (os.take j) ∧ (OpsAt wr ap n os ∧ Clear F wr ap n) ∧ (OpsAt wr at' n (runT k m [] os) ∧ Clear F wr at' n) ∧ Reads .i32 wr as' nz (runZ k m [] os) ∧ Clear F wr as' nz

theorem OneAt.next {w wr w0 w1 : World} {F F' : Nat → Prop} {s' : List It × List Bool} {o n nz j : Nat} {k m : Int} {pl : Bool} {os : List (Int × Int)} {ap at' as' : Option Addr} (hb : Below wr.heap.size wr w0) (wr1 : Wrote F w0 w1) (l1 : Later F F' w0)
    (h2 : OpsAt wr ap n os ∧ Clear F wr ap n) (h3 : OpsAt wr at' n (runT k m [] os) ∧ Clear F wr at' n) (h4 : Reads .i32 wr as' nz (runZ k m [] os)) (h5 : Clear F wr as' nz)
    (x : OAt w F' o k m pl s' w1) (hv : vals s'.1 = runZ k m [] (os.take (j + 1))) : OneAt w o k m pl os n ap at' as' nz (j + 1) w1 :=
  ⟨F', s', x, hv, ⟨(h2.2.fresh hb).ops (h2.1.keep hb) wr1, (h2.2.fresh hb).next wr1 l1⟩, ⟨(h3.2.fresh hb).ops (h3.1.keep hb) wr1, (h3.2.fresh hb).next wr1 l1⟩, (h5.fresh hb).reads (h4.keep hb) wr1, (h5.fresh hb).next wr1 l1⟩

theorem OneAt.fresh {w wr w1 : World} {o n nz j : Nat} {k m : Int} {pl : Bool} {os : List (Int × Int)} {ap at' as' : Option Addr} (h : OneAt w o k m pl os n ap at' as' nz j wr) (hb : Below wr.heap.size wr w1) : OneAt w o k m pl os n ap at' as' nz j w1 := by
  obtain ⟨F, s, P, hv, h2, h3, h4, h5⟩ := h
  exact ⟨F, s, P.fresh hb, hv, ⟨h2.1.keep hb, h2.2.fresh hb⟩, ⟨h3.1.keep hb, h3.2.fresh hb⟩, h4.keep hb, h5.fresh hb⟩

set_option maxRecDepth 100000 in
set_option maxHeartbeats 16000000 in
theorem oneWalk {w : World} (kd mv : Int) (al : Option Addr) (nl cl : Nat) (xs : List Int) (pl : Bool) (k0 : 0 ≤ kd) (k1 : kd ≤ 255) (m0 : 0 ≤ mv) (m1 : mv ≤ 255) (hx : ArgBytes w al nl cl xs) (hnl : nl ≤ 140737488351232) :
    Calls Tryz.prog 7 #[.int .u8 kd, .int .u8 mv, .slice al nl cl, .bool pl] w fun e w' => e = .returned (.bool true) ∧ Below w.heap.size w w' := by
  have hq := eqSelf
  have HOK := Lib.hid (opsL_ok 4 xs hx.2.2.2 (by omega) (by omega))
  have hlen := opsL_len 4 xs
  have C := opsAny w al nl cl xs 4 hx.1 hx.2.2.2 hnl (by omega) (by omega)
  clear hx
  obtain ⟨os, hos⟩ : ∃ os, opsL 4 xs = os := ⟨_, rfl⟩
  rw [hos] at C HOK hlen
  clear hos
  obtain ⟨r, hr⟩ : ∃ r, kd % 3 = r := ⟨_, rfl⟩
  obtain ⟨m, hm⟩ : ∃ m, mv % 12 = m := ⟨_, rfl⟩
  have hr0 : 0 ≤ r ∧ r ≤ 2 := by omega
  have hm0 : 0 ≤ m ∧ m ≤ 11 := by omega
  have hrm : kd.tmod 3 = r := by rw [Int.tmod_eq_emod_of_nonneg k0]; exact hr
  have hmm : mv.tmod 12 = m := by rw [Int.tmod_eq_emod_of_nonneg m0]; exact hm
  have hrw2 : IntKind.u8.wrap r = r := by rw [IntKind.wrap_u8]; omega
  have hrw : (1 + r) % 256 = 1 + r := by omega
  have hmw : IntKind.u8.wrap m = m := by rw [IntKind.wrap_u8]; omega
  have hmi : IntKind.i64.wrap m = m := by rw [IntKind.wrap_i64]; omega
  have hmo := mostOf_self m hm0.1 (by omega)
  have HKD := Lib.hid (show 1 + r = 1 ∨ 1 + r = 2 ∨ 1 + r = 3 by omega)
  have HM := Lib.hid hm0
  clear hr hm hr0 hm0 k0 k1 m0 m1
  go_enter Tryz.func7, Tryz.ntmps7
  go_wp2_with fail
  refine C.mono ?_
  clear C
  rintro e w1 ⟨ap, cp, rfl, o1, hn1, b1⟩
  obtain ⟨n, hn⟩ : ∃ n, os.length = n := ⟨_, rfl⟩
  have HN := Lib.hid hn
  rw [hn] at o1 hlen ⊢
  clear hn
  have HB1 := Lib.hid b1
  have HO1 := Lib.hid (And.intro o1 hn1)
  clear o1 hn1 b1
  go_wp2_with fail
  refine (obNew (1 + r) m pl w1 HKD.out).mono ?_
  rintro e w2 hn
  rw [hmo] at hn
  obtain ⟨o, F, rfl, P2, b2, hF⟩ := OAt.new HB1.out hn
  have HP2 := Lib.hid P2
  have HO2 := Lib.hid (show OpsAt w2 ap n os ∧ Clear F w2 ap n from ⟨HO1.out.1.keep b2, fun hp => ⟨fun x hx hf => Nat.lt_irrefl _ (Nat.lt_of_lt_of_le (opsOld HO1.out.1 hp x hx) (hF _ hf)), fun x hx => Nat.lt_of_lt_of_le (opsOld HO1.out.1 hp x hx) b2.size⟩⟩)
  clear hn P2 b2 hF
  have C := refRun w2 (1 + r) m none ap 0 0 n cp [] os ⟨rfl, fun h => absurd h (Nat.lt_irrefl 0)⟩ (Nat.le_refl _) HO2.out.1 HOK.out (Nat.zero_le _) (Nat.le_trans hlen (by decide))
  rw [hmo] at C
  go_wp2_with fail
  refine C.mono ?_
  clear C hmo hrm hmm hrw hrw2 hmw hmi
  generalize 1 + r = k at *
  rintro e w3 ⟨as', cs, at', ct, rfl, r3, t3, b3, ns, nt⟩
  rw [HN.out] at t3 ⊢
  obtain ⟨nz, hnz⟩ : ∃ nz, (runZ k m [] os).length = nz := ⟨_, rfl⟩
  have HNZ := Lib.hid (And.intro hnz (show nz ≤ 1000 by rw [← hnz]; exact runZ_le (by have := HM.out; omega) os [] (by simp)))
  rw [hnz] at r3 ⊢
  have HS := Lib.hid (show OneAt w o k m pl os n ap at' as' nz 0 w3 from
    ⟨F, ([], []), HP2.out.fresh b3, rfl, ⟨HO2.out.1.keep b3, HO2.out.2.fresh b3⟩, ⟨t3, HP2.out.clearO t3 nt⟩, r3, HP2.out.clear r3 (fun x hx => (ns x hx).resolve_right (fun h => by cases h))⟩)
  clear hnz r3 t3 b3 ns nt HP2 HO2
  go_wp2_with fail
  go_loopw [13] (fun i wr => ∃ j : Nat, j ≤ n ∧ i = .int .i64 j ∧ OneAt w o k m pl os n ap at' as' nz j wr) (fun i _ => n - (intOf i).toNat)
  case atStart => exact ⟨0, Nat.zero_le _, rfl, HS.out⟩
  case round =>
    obtain ⟨j, hj, rfl, F, s, P, hv, h2, h3, h4, h5⟩ := hrel
    clear HS
    by_cases hlt : j < n
    · obtain ⟨ob, oo, rfl, obl, oc⟩ := h2.1.2 (by omega)
      obtain ⟨x0, x1⟩ := oc j hlt
      have hop := ok_at HOK.out (i := j) (by rw [HN.out]; exact hlt)
      have HTA := Lib.hid (runT_at12 (k := k) (m := m) (zs := []) (os := os) (j := j) (by rw [HN.out]; exact hlt))
      have HRS := Lib.hid (run_step (k := k) (m := m) (zs := []) (os := os) (j := j) (by rw [HN.out]; exact hlt))
      obtain ⟨a, ha⟩ : ∃ x, (os.getD j (0, 0)).1 = x := ⟨_, rfl⟩
      obtain ⟨v, hvv⟩ : ∃ x, (os.getD j (0, 0)).2 = x := ⟨_, rfl⟩
      have HOP := Lib.hid (show OpOk (a, v) by rw [← ha, ← hvv]; exact hop)
      rw [ha] at x0 HTA
      rw [hvv] at x1
      rw [ha, hvv] at HRS
      rw [← hv] at HTA HRS
      have i1 : (j : Int) < n := by omega
      have hb : Below wr.heap.size wr (wr.alloc (.cells #[.int .u8 a, .int .i32 v] 49)) := (Below.refl _ _).alloc (Nat.le_refl _) _
      have P1 := P.fresh hb
      have C := Lib.hid (obDo P1.1 (some ⟨wr.heap.size, 0, none⟩) 1 (opLit1 wr a v) (P.old (ao := some ⟨wr.heap.size, 0, none⟩) (n := 1) (fun _ x hx => by injection hx with hx; subst hx; exact .inr (Nat.le_refl _))) (fun o ho => by simp at ho; subst ho; exact HOP.out) (by omega))
      have HP := Lib.hid P1
      have HX := Lib.hid (And.intro hb (And.intro h2 (And.intro h3 (And.intro h4 h5))))
      clear P P1 hb h2 h3 h4 h5 oc hop ha hvv hv
      go_wp2_with fail
      refine C.out.mono ?_
      clear C x0 x1
      rintro e w4 hp
      obtain ⟨g, F', rfl, rg, hg, P4, ng, wr4, l4⟩ := HP.out.post hp
      rw [batT_one] at rg
      have hv4 : vals (objS k m s [(a, v)]).1 = runZ k m [] (os.take (j + 1)) := by rw [objS_vals, batZ_one, HRS.out]
      have HNx := Lib.hid (OneAt.next HX.out.1 wr4 l4 HX.out.2.1 HX.out.2.2.1 HX.out.2.2.2.1 HX.out.2.2.2.2 P4 hv4)
      have ht := ((HX.out.2.2.1.2.fresh HX.out.1).ops (HX.out.2.2.1.1.keep HX.out.1) wr4)
      obtain ⟨tb, tof, rfl, tbl, tc⟩ := ht.2 (by omega)
      obtain ⟨y0, y1⟩ := tc j hlt
      rw [HTA.out] at y0 y1
      obtain ⟨z0, z1⟩ := rg.cells (i := 0) (by simp)
      simp only [List.getD_cons_zero, Nat.zero_mul, Nat.zero_add] at z0 z1
      simp only at y0 y1
      clear hp rg hg P4 ng wr4 l4 hv4 ht tbl tc HX HP HTA HRS HOP
      generalize objC k m (vals s.1) a = c at *
      generalize objV k (vals s.1) a = cv at *
      go_wp2
      go_quiet (fail)
      go_wp2
      go_roundw
      case rel => exact ⟨j + 1, by omega, by go_num, HNx.out.fresh (below_drewN (Below.refl _ _) _)⟩
      case measure => simp [intOf]; omega
    · obtain rfl : j = n := by omega
      clear hlt
      rw [show os.take j = os from List.take_of_length_le (by rw [HN.out]; exact Nat.le_refl _)] at hv
      have HP := Lib.hid P
      have HR := Lib.hid (And.intro h4 h5)
      have HV := Lib.hid hv
      clear P hv h2 h3 h4 h5
      go_wp2_with fail
      refine (known wr).mono ?_
      rintro e w4 ⟨rfl, b4⟩
      have HP4 := Lib.hid (HP.out.fresh b4)
      have HR4 := Lib.hid (And.intro (HR.out.1.keep b4) (HR.out.2.fresh b4))
      clear b4 HP HR
      have C := obItems HP4.out.1
      go_wp2_with fail
      refine C.mono ?_
      clear C
      rintro e w5 ⟨ao5, cap5, rfl, r5, _, _, b5⟩
      rw [HV.out] at r5 ⊢
      rw [HNZ.out.1] at r5 ⊢
      have C := sameEq w5 ao5 as' nz cap5 cs _ r5 (HR4.out.1.keep b5) HNZ.out.2
      have HP5 := Lib.hid (HP4.out.fresh b5)
      clear r5 b5
      go_wp2_with fail
      refine C.mono ?_
      clear C
      rintro e w6 ⟨rfl, b6⟩
      have HP6 := Lib.hid (HP5.out.fresh b6)
      clear b6
      have C := obDo HP6.out.1 none 0 (n := 0) (os := []) ⟨rfl, fun h => by omega⟩ (fun h => by omega) (fun o ho => by simp at ho) (by omega)
      go_wp2_with fail
      refine C.mono ?_
      clear C
      rintro e w7 hp
      obtain ⟨g, F', rfl, _, _, P7, _⟩ := HP6.out.post hp
      have HB := Lib.hid P7.2.1
      clear hp P7
      go_wp2
      go_ret
      exact ⟨rfl, HB.out⟩

end Go.Proofs.YtniefplgijpckaaGreat
