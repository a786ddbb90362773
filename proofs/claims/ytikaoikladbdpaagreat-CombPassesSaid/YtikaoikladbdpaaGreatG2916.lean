/-
  CombAgain tells true. Conditions: its arguments within their types' bounds. What Reach and Records of package list tell. Conditions: a memory as Mem1 says. What the document's own Place, Reach and Records (package reaperref14) tell. Conditions: at most 1000 cells.
-/
import Derived.Test.YtikaoikladbdpaaGreatG2516
import Derived.Test.YtikaoikladbdpaaGreatKno16m
import Derived.Test.YtikaoikladbdpaaGreatG2716
import Derived.Test.YtikaoikladbdpaaGreatG2816
import Derived.BigQuiet
namespace Go.Proofs.YtikaoikladbdpaaGreat.M2
open Go.RowKit

theorem own_low {w : World} {B B' n : Nat} {u : Value} {xs : List Value} (h : w.ownsRow B 2 1 u n xs) (hB : B' ≤ B) : w.ownsRow B' 2 1 u n xs := by
  refine ⟨h.1, ?_⟩
  rcases h.2 with hn | ⟨g, cap, cur, e, hl, r⟩
  · exact .inl hn
  · exact .inr ⟨g, cap, cur, e, Nat.le_trans hB hl, r⟩
theorem Mem.lower {w : World} {B B' p : Nat} {v : Value} {size : Int} {zs : List Int} {st : Int} (m : Mem w B p v size zs st) (hB : B' ≤ B) : Mem w B' p v size zs st := ⟨m.block, Nat.le_trans hB m.low, own_low m.own hB, m.s0, m.s1, m.room⟩

theorem MO.made {w a b : World} {B p o : Nat} {v : Value} {size : Int} {zs : List Int} {st : Int} {k m : Int} {pl : Bool} (me : Mem a B p v size zs st) (hB : w.heap.size ≤ B) (hb : Below w.heap.size w a) (x : Ob b (New a b) o k m pl ([], [])) (bb : Below a.heap.size a b) : MO w p v size zs st (New a b) o k m pl ([], []) b :=
  ⟨(me.lower hB).fresh bb, x, fun z hz => by simp [vals] at hz, fun g hg => Nat.le_trans hb.size hg.1, fun hf => by have := me.lt; have := hf.1; omega, fun g hg hf => by have := (me.rowLt hg).2; have := hf.1; omega, hb.trans (bb.mono hb.size)⟩

structure AgI (w : World) (p o gt : Nat) (k : Nat) (S : SS) (q : Nat) (wr : World) : Prop where
  mo : ∃ v F x, MO w p v 8 S.zs S.c F o 1 10 false S.s wr ∧ TX wr gt S.t x ∧ BR w.heap.size wr x S.l ∧ ¬ F gt ∧ ∀ g, x.ownBlock = some g → ¬ F g
  lo : w.heap.size ≤ gt
  ll : S.l.length ≤ k
  c0 : 0 ≤ S.c
  c1 : S.c ≤ 9 + 3 * (k : Int)
  q1 : q ≤ k

def AgRel (w : World) (p o gt : Nat) (pa W : Int) (X : SS × Nat) (qv kv : Value) (wr : World) : Prop :=
  ∃ k : Nat, k ≤ 400 ∧ kv = .int .i64 (k : Int) ∧ qv = .int .i64 (((agIt pa W X k).2 : Nat) : Int) ∧ (∀ j, j < k → srv (agIt pa W X j).1 = true) ∧ AgI w p o gt k (agIt pa W X k).1 (agIt pa W X k).2 wr

set_option maxRecDepth 100000 in
set_option maxHeartbeats 16000000 in
theorem againWalk (ps v x : Int) (p0 : 0 ≤ ps) (_ : ps ≤ 255) (v0 : -2147483648 ≤ v) (v1 : v ≤ 2147483647) (x0 : -2147483648 ≤ x) (x1 : x ≤ 2147483647) (w : World) :
    Calls Tryz.prog 8 #[.int .u8 ps, .int .i32 v, .int .i32 x] w fun e w' => e = .returned (.bool true) ∧ Below w.heap.size w w' := by
  go_enter Tryz.func8, Tryz.ntmps8
  go_wp2_with fail
  refine (refOp 1 v (by omega) (by omega) v0 v1 _).mono ?_
  rintro e w1 ⟨rfl, f1⟩
  have hb1 := f1.below
  have hw1 := wd_bd (k := 1) (v := v) (by omega) (by omega) v0 v1
  have hk1 : kd (wd 1 v) = 1 := kd_wd (by omega) (by omega)
  have hw2 := wd_bd (k := 1) (v := x) (by omega) (by omega) x0 x1
  have hk2 : kd (wd 1 x) = 1 := kd_wd (by omega) (by omega)
  obtain ⟨R, hR⟩ : ∃ R, wd 1 v = R := ⟨_, rfl⟩
  rw [hR] at hw1 hk1 ⊢
  have HR := Lib.hid (And.intro hw1 hk1)
  have HW := Lib.hid (And.intro hw2 hk2)
  have HB1 := Lib.hid hb1
  clear f1 hb1 hw1 hk1 hw2 hk2 hR
  go_wp2_with fail
  have R0 := lit_i64 w1 [1, 3, 0, R, 1, 0, 0, 0]
  have hb0 : Below w1.heap.size w1 (w1.alloc (.cells (([1, 3, 0, R, 1, 0, 0, 0] : List Int).map (Value.int .i64)).toArray 2)) := (Below.refl _ _).alloc (Nat.le_refl _) _
  change Calls _ _ _ (w1.alloc (.cells (([1, 3, 0, R, 1, 0, 0, 0] : List Int).map (Value.int .i64)).toArray 2)) _
  generalize w1.alloc (.cells (([1, 3, 0, R, 1, 0, 0, 0] : List Int).map (Value.int .i64)).toArray 2) = V0 at *
  have HV0 := Lib.hid (HB1.out.trans (hb0.mono HB1.out.size))
  clear hb0 HB1
  refine (memoryTwo V0 _ 8 8 [1, 3, 0, R, 1, 0, 0, 0] R0 (by omega)).mono ?_
  clear R0
  rintro e V1 ⟨p, u, vv, rfl, m1, o1, n1, b1⟩
  obtain ⟨au, cu, rfl⟩ := _root_.Go.Proofs.YtikaoikladbdpaaGreat.ownShape o1
  have HM := Lib.hid (show Mem V1 V0.heap.size p vv 8 [1, 3, 0, R, 1, 0, 0, 0] 9 from m1)
  have HV1 := Lib.hid (HV0.out.trans (b1.mono HV0.out.size))
  have HWS := Lib.hid (HV0.out.size)
  clear m1 o1 n1 b1 HV0
  go_wp2_with fail
  have hbx := HV1.out.alloc HV1.out.size (.cells #[.int .i64 8, .slice au 8 cu, .int .i64 9] 41)
  have mx := HM.out.fresh ((Below.refl V1.heap.size V1).alloc (Nat.le_refl _) (.cells #[.int .i64 8, .slice au 8 cu, .int .i64 9] 41))
  generalize V1.alloc (.cells #[.int .i64 8, .slice au 8 cu, .int .i64 9] 41) = V2 at *
  have HBX := Lib.hid hbx
  have HMX := Lib.hid mx
  clear hbx mx HM
  refine (obNew 1 10 false V2 (.inl rfl)).mono ?_
  rintro e V3 ⟨o, rfl, ob, b3⟩
  rw [mostOf_self 10 (by decide) (by decide)] at ob
  have HO := Lib.hid (MO.made HMX.out HWS.out HBX.out ob b3)
  clear HMX HBX ob b3 HV1 HWS
  go_upto_region 7 with (fail)
  have hb4 : Below V3.heap.size V3 (V3.alloc (.cells #[.int .i64 0, .int .i64 20, .int .i64 0, .int .i64 0, .int .i64 0, .int .i64 0, .int .i64 0, .int .i64 0, .int .i64 0, .int .i64 0, .int .i64 0, .int .i64 0, .slice none 0 0] 25)) := (Below.refl _ _).alloc (Nat.le_refl _) _
  have TX4 : TX (V3.alloc (.cells #[.int .i64 0, .int .i64 20, .int .i64 0, .int .i64 0, .int .i64 0, .int .i64 0, .int .i64 0, .int .i64 0, .int .i64 0, .int .i64 0, .int .i64 0, .int .i64 0, .slice none 0 0] 25)) V3.heap.size ⟨0, 20, 0, 0, 0, 0, 0, 0, 0, 0, 0, 0⟩ (.slice none 0 0) := TX.new V3 ⟨0, 20, 0, 0, 0, 0, 0, 0, 0, 0, 0, 0⟩ (.slice none 0 0)
  generalize V3.alloc (.cells #[.int .i64 0, .int .i64 20, .int .i64 0, .int .i64 0, .int .i64 0, .int .i64 0, .int .i64 0, .int .i64 0, .int .i64 0, .int .i64 0, .int .i64 0, .int .i64 0, .slice none 0 0] 25) = V4 at *
  obtain ⟨F, hF⟩ : ∃ F, F = New V2 V3 := ⟨_, rfl⟩
  rw [← hF] at HO
  have HO4 := Lib.hid (HO.out.fresh hb4)
  have nF : ¬ F V3.heap.size := fun hf => Nat.lt_irrefl _ (HO.out.ob.foot _ hf)
  have HT := Lib.hid (And.intro TX4 (And.intro nF HO.out.b.size))
  clear hb4 TX4 nF hF HO
  generalize V3.heap.size = gt at *
  obtain ⟨r, hr, hr5⟩ : ∃ r : Nat, ps.tmod 5 = (r : Int) ∧ r < 5 := ⟨(ps % 5).toNat, by rw [Int.tmod_eq_emod_of_nonneg p0]; omega, by omega⟩
  obtain ⟨X, hX⟩ : ∃ X : SS × Nat, X = (⟨⟨0, 20, 0, 0, 0, 0, 0, 0, 0, 0, 0, 0⟩, [], [1, 3, 0, R, 1, 0, 0, 0], 9, ([], []), []⟩, 0) := ⟨_, rfl⟩
  have HX := Lib.hid hX
  have HR5 := Lib.hid (And.intro hr hr5)
  have hstart : AgRel w p o gt (1 + (r : Int)) (wd 1 x) X (.int .i64 0) (.int .i64 0) V4 := by
    refine ⟨0, by omega, rfl, by rw [hX]; rfl, fun j hj => absurd hj (Nat.not_lt_zero _), ?_⟩
    show AgI w p o gt 0 X.1 X.2 V4
    rw [hX]
    exact ⟨⟨vv, F, .slice none 0 0, HO4.out, HT.out.1, BR.nil _ _, HT.out.2.1, fun g hg => by simp [Value.ownBlock] at hg⟩, HT.out.2.2, Nat.le_refl _, by show (0 : Int) ≤ 9; omega, by show (9 : Int) ≤ 9 + 3 * ((0 : Nat) : Int); omega, Nat.le_refl _⟩
  have HST := Lib.hid hstart
  clear hX hr hr5 hstart HO4 HT
  go_wp2_with fail
  go_loopw [12, 13] (fun qv kv wr => AgRel w p o gt (1 + (r : Int)) (wd 1 x) X qv kv wr) (fun _ kv _ => 400 - (intOf kv).toNat)
  case atStart => exact HST.out
  case round =>
    obtain ⟨k, hk, rfl, rfl, hsv, hI⟩ := hrel
    clear HST
    obtain ⟨S, hS⟩ : ∃ S, agIt (1 + (r : Int)) (wd 1 x) X k = S := ⟨_, rfl⟩
    have HSE := Lib.hid hS
    have HSV := Lib.hid hsv
    rw [hS] at hI ⊢
    clear hS hsv
    obtain ⟨⟨v', F', bx, mo, tx, br, nF, nb⟩, lo, ll, c0', c1', q1⟩ := hI
    obtain ⟨ax, cx, rfl, its, _, hc, _⟩ := br.its
    obtain ⟨nx, hnx⟩ : ∃ nx, S.1.l.length = nx := ⟨_, rfl⟩
    rw [hnx] at its tx br nb
    obtain ⟨T, hT⟩ : ∃ T, S.1.t = T := ⟨_, rfl⟩
    rw [hT] at tx
    have HG := Lib.hid (And.intro mo (And.intro tx (And.intro br (And.intro nF (And.intro nb (And.intro its hc))))))
    have HN := Lib.hid (And.intro lo (And.intro ll (And.intro c0' (And.intro c1' q1))))
    have HTE := Lib.hid (And.intro hT hnx)
    clear mo br nF nb its hc lo ll c0' c1' q1 hT hnx
    by_cases hlt : k < 400
    · have hlt' : (k : Int) < 400 := by omega
      have A := servesO wr T (.slice ax nx cx) ⟨_, _, _, rfl⟩
      rw [show thV T (.slice ax nx cx) = .agg #[.int .i64 T.ti, .int .i64 T.pc, .int .i64 T.rc, .int .i64 T.sq, .int .i64 T.wo, .int .i64 T.lk, .int .i64 T.cu, .int .i64 T.pv, .int .i64 T.nt, .int .i64 T.mx, .int .i64 T.ps, .int .i64 T.rn, .slice ax nx cx] from rfl] at A
      have HA := Lib.hid A
      have t0 := tx.c0
      have t1 := tx.c1
      have t2 := tx.c2
      have t3 := tx.c3
      have t4 := tx.c4
      have t5 := tx.c5
      have t6 := tx.c6
      have t7 := tx.c7
      have t8 := tx.c8
      have t9 := tx.c9
      have t10 := tx.c10
      have t11 := tx.c11
      have t12 := tx.c12
      clear A tx hlt
      go_wp2_with fail
      with_reducible refine HA.out.mono ?_
      clear HA t0 t1 t2 t3 t4 t5 t6 t7 t8 t9 t10 t11 t12
      rintro e w5 ⟨rfl, b5⟩
      have HB5 := Lib.hid b5
      clear b5
      by_cases hs : 20 ≤ T.pc ∧ T.pc ≤ 39
      · rw [decide_eq_true hs]
        have HSP := Lib.hid hs
        have mo5 := HG.out.1.fresh HB5.out
        have tx5 := HG.out.2.1.keep HB5.out
        have its5 := HG.out.2.2.2.2.2.1.keep HB5.out
        have bd : S.1.l.length ≤ 400 ∧ 0 ≤ S.1.c ∧ S.1.c ≤ 2000 := by have := HN.out; omega
        have C := stepMO mo5 (1 + (r : Int)) S.1.t ax (cap := cx) its5 HG.out.2.2.2.2.2.2 (by omega) bd.2.1 (by omega) S.1.dn
        rw [HTE.out.1] at C
        rw [show (⟨T, S.1.l, S.1.zs, S.1.c, S.1.s, S.1.dn⟩ : SS) = S.1 by rw [← HTE.out.1]] at C
        rw [show thV T (.slice ax nx cx) = .agg #[.int .i64 T.ti, .int .i64 T.pc, .int .i64 T.rc, .int .i64 T.sq, .int .i64 T.wo, .int .i64 T.lk, .int .i64 T.cu, .int .i64 T.pv, .int .i64 T.nt, .int .i64 T.mx, .int .i64 T.ps, .int .i64 T.rn, .slice ax nx cx] from rfl] at C
        have HC := Lib.hid C
        obtain ⟨hr, hr5⟩ := HR5.out
        have t0 := tx5.c0
        have t1 := tx5.c1
        have t2 := tx5.c2
        have t3 := tx5.c3
        have t4 := tx5.c4
        have t5 := tx5.c5
        have t6 := tx5.c6
        have t7 := tx5.c7
        have t8 := tx5.c8
        have t9 := tx5.c9
        have t10 := tx5.c10
        have t11 := tx5.c11
        have t12 := tx5.c12
        clear C mo5 tx5 its5 hs
        go_wp2_with fail
        with_reducible refine HC.out.mono ?_
        clear HC t0 t1 t2 t3 t4 t5 t6 t7 t8 t9 t10 t11 t12
        rintro e w6 ⟨v6, F6, x6, d6, rfl, mo6, br6, _, n6, _, kp6, lt6, sz6⟩
        obtain ⟨S1, hS1⟩ : ∃ S1, S1 = ssStep (1 + (r : Int)) 1 10 S.1 := ⟨_, rfl⟩
        have mo6 : MO w p v6 8 S1.zs S1.c F6 o 1 10 false S1.s w6 := by rw [hS1]; exact mo6
        have br6 : BR w5.heap.size w6 x6 S1.l := by rw [hS1]; exact br6
        obtain ⟨ax6, cx6, hx6, _⟩ := br6.shape
        subst hx6
        obtain ⟨T1, hT1⟩ : ∃ T1, T1 = S1.t := ⟨_, rfl⟩
        have hT1' : (ssStep (1 + (r : Int)) 1 10 S.1).t = T1 := by rw [hT1, hS1]
        rw [hT1']
        rw [show thV T1 (.slice ax6 S1.l.length cx6) = .agg #[.int .i64 T1.ti, .int .i64 T1.pc, .int .i64 T1.rc, .int .i64 T1.sq, .int .i64 T1.wo, .int .i64 T1.lk, .int .i64 T1.cu, .int .i64 T1.pv, .int .i64 T1.nt, .int .i64 T1.mx, .int .i64 T1.ps, .int .i64 T1.rn, .slice ax6 S1.l.length cx6] from rfl]
        have tx6 : TX w6 gt T (.slice ax nx cx) := (HG.out.2.1.keep HB5.out).kp kp6 HG.out.2.2.2.1
        have nF6 : ¬ F6 gt := fun hf => by
          rcases lt6 gt hf with h1 | h1
          · exact HG.out.2.2.2.1 h1
          · have := (HG.out.2.1.keep HB5.out).lt; omega
        have HG6 := Lib.hid (And.intro mo6 (And.intro br6 (And.intro n6 (And.intro nF6 tx6))))
        have HSS := Lib.hid (And.intro hS1 hT1)
        have HSZ := Lib.hid (show wr.heap.size ≤ w5.heap.size ∧ w5.heap.size ≤ w6.heap.size from ⟨HB5.out.size, sz6⟩)
        clear mo6 br6 n6 nF6 tx6 hS1 hT1 hT1' kp6 lt6 sz6
        go_upto_region 12 with (fail)
        obtain ⟨w7, hw7⟩ : ∃ w7, w6.alloc (.cells #[.int .i64 T1.ti, .int .i64 T1.pc, .int .i64 T1.rc, .int .i64 T1.sq, .int .i64 T1.wo, .int .i64 T1.lk, .int .i64 T1.cu, .int .i64 T1.pv, .int .i64 T1.nt, .int .i64 T1.mx, .int .i64 T1.ps, .int .i64 T1.rn, .slice ax6 S1.l.length cx6] 25) = w7 := ⟨_, rfl⟩
        rw [hw7]
        have hb7 : Below w6.heap.size w6 w7 := by rw [← hw7]; exact (Below.refl _ _).alloc (Nat.le_refl _) _
        have ux7 : TX w7 w6.heap.size T1 (.slice ax6 S1.l.length cx6) := by rw [← hw7]; exact TX.new w6 T1 _
        have tx7 := HG6.out.2.2.2.2.keep hb7
        have HB7 := Lib.hid hb7
        have HT7 := Lib.hid tx7
        have hgt : ¬ gt = w6.heap.size := by have := HG6.out.2.2.2.2.lt; omega
        have u0 := ux7.c0
        have u1 := ux7.c1
        have u2 := ux7.c2
        have u3 := ux7.c3
        have u4 := ux7.c4
        have u5 := ux7.c5
        have u6 := ux7.c6
        have u7 := ux7.c7
        have u8 := ux7.c8
        have u9 := ux7.c9
        have u10 := ux7.c10
        have u11 := ux7.c11
        have u12 := ux7.c12
        have t0 := tx7.c0
        have t1 := tx7.c1
        have t2 := tx7.c2
        have t3 := tx7.c3
        have t4 := tx7.c4
        have t5 := tx7.c5
        have t6 := tx7.c6
        have t7 := tx7.c7
        have t8 := tx7.c8
        have t9 := tx7.c9
        have t10 := tx7.c10
        have t11 := tx7.c11
        have t12 := tx7.c12
        have tf := tx7.f
        clear hw7 hb7 ux7 tx7
        go_upto_region 13 with (fail)
        clear u0 u1 u2 u3 u4 u5 u6 u7 u8 u9 u10 u11 u12 t0 t1 t2 t3 t4 t5 t6 t7 t8 t9 t10 t11 t12 tf
        obtain ⟨w8, hw8⟩ : ∃ w8, setT w7 gt T1 (.slice ax6 S1.l.length cx6) = w8 := ⟨_, rfl⟩
        have hw8' := hw8
        unfold setT at hw8'
        rw [hw8']
        clear hw8'
        have mo8 : MO w p v6 8 S1.zs S1.c F6 o 1 10 false S1.s w8 := by
          rw [← hw8]
          exact (HG6.out.1.fresh HB7.out).box HT7.out (by decide) (by decide) HG6.out.2.2.2.1 HN.out.1 (wroteT w7 gt T1 _)
        have tx8 : TX w8 gt T1 (.slice ax6 S1.l.length cx6) := by rw [← hw8]; exact HT7.out.all T1 _
        have br8 : BR w5.heap.size w8 (.slice ax6 S1.l.length cx6) S1.l := by rw [← hw8]; exact (HG6.out.2.1.below HB7.out).setT HT7.out T1 _
        have bd : 0 ≤ S1.c ∧ S1.c ≤ S.1.c + 1 ∧ S1.l.length ≤ S.1.l.length + 1 ∧ S.1.c ≤ S1.c := by
          have h1 := ss_c (1 + (r : Int)) 1 10 S.1
          have h2 := ss_l (1 + (r : Int)) 1 10 S.1
          rw [← HSS.out.1] at h1 h2
          have := HN.out
          omega
        have HBD := Lib.hid bd
        have C9 := mo8.loadC 3 bd.1 (by have := HN.out; omega)
        have H8 := Lib.hid (And.intro tx8 br8)
        clear mo8 tx8 br8 hw8 bd
        go_wp2_with fail
        with_reducible refine C9.mono ?_
        clear C9
        rintro e w9 ⟨rfl, v9, mo9, kp9, sz9⟩
        have tx9 := H8.out.1.kp kp9 HG6.out.2.2.2.1
        have br9 := (H8.out.2.kp kp9 HG6.out.2.2.1).low (M' := w.heap.size) (by have := HSZ.out; have := HG.out.1.b.size; omega)
        rw [HSS.out.2] at tx9
        have H9 := Lib.hid (And.intro mo9 (And.intro tx9 br9))
        have hsvK : ∀ j, j < k + 1 → srv (agIt (1 + (r : Int)) (wd 1 x) X j).1 = true := fun j hj => by
          rcases (show j < k ∨ j = k by omega) with h | rfl
          · exact HSV.out j h
          · rw [HSE.out]
            unfold srv
            rw [HTE.out.1]
            exact decide_eq_true HSP.out
        have HSK := Lib.hid hsvK
        clear mo9 kp9 tx9 br9 hsvK
        by_cases hy : ld S1.zs 3 = 0
        · by_cases hq9 : S.2 < 9
          · have e : agIt (1 + (r : Int)) (wd 1 x) X (k + 1) = ({ S1 with zs := sto S1.zs 3 (wd 1 x), c := S1.c + cn S1.zs 3 + cn S1.zs 3 }, S.2 + 1) := by
              show agStep _ _ (agIt _ _ X k) = _
              rw [HSE.out]
              unfold agStep
              rw [← HSS.out.1, if_pos ⟨hy, hq9⟩]
            have HE := Lib.hid e
            clear e
            rw [hy]
            have hq9' : (S.2 : Int) < 9 := by omega
            have HQ := Lib.hid hq9
            clear hy hq9
            go_wp2_with fail
            refine (refOp 1 x (by omega) (by omega) x0 x1 _).mono ?_
            rintro e w10 ⟨rfl, f10⟩
            have hb10 := f10.below
            have C := (H9.out.1.fresh hb10).storeC 3 (wd 1 x) (by have := HBD.out; have := cn_bd S1.zs 3; omega) (by have := HBD.out; have := HN.out; have := cn_bd S1.zs 3; omega)
            have HC := Lib.hid C
            have H10 := Lib.hid (And.intro (H9.out.2.1.keep hb10) (H9.out.2.2.below hb10))
            clear f10 hb10 C
            go_wp2_with fail
            with_reducible refine HC.out.mono ?_
            clear HC
            rintro e w11 ⟨rfl, v11, mo11, kp11, sz11⟩
            have tx11 := H10.out.1.kp kp11 HG6.out.2.2.2.1
            have br11 := H10.out.2.kp kp11 HG6.out.2.2.1
            have H11 := Lib.hid (And.intro mo11 (And.intro tx11 br11))
            clear mo11 kp11 tx11 br11 H10
            have hqk : (S.2 : Int) ≤ 400 := by have := HN.out; omega
            go_wp2
            go_roundw
            case rel =>
              refine ⟨k + 1, by omega, by go_num, by rw [HE.out]; go_num, HSK.out, ?_⟩
              rw [HE.out]
              exact ⟨⟨v11, F6, _, H11.out.1, H11.out.2.1, H11.out.2.2, HG6.out.2.2.2.1, HG6.out.2.2.1⟩, HN.out.1, by show S1.l.length ≤ k + 1; have := HBD.out; have := HN.out; omega, by show 0 ≤ S1.c + _ + _; have := HBD.out; have := cn_bd S1.zs 3; omega, by show S1.c + _ + _ ≤ _; have := HBD.out; have := HN.out; have := cn_bd S1.zs 3; omega, by show S.2 + 1 ≤ k + 1; have := HN.out; omega⟩
            case measure => simp [intOf]; omega
          · have e : agIt (1 + (r : Int)) (wd 1 x) X (k + 1) = ({ S1 with c := S1.c + cn S1.zs 3 }, S.2) := by
              show agStep _ _ (agIt _ _ X k) = _
              rw [HSE.out]
              unfold agStep
              rw [← HSS.out.1, if_neg (fun h => hq9 h.2)]
            have HE := Lib.hid e
            clear e
            rw [hy]
            have hq9' : ¬ (S.2 : Int) < 9 := by omega
            have hq9'' : decide ((S.2 : Int) < 9) = false := decide_eq_false hq9'
            clear hy hq9
            go_wp2
            go_roundw
            case rel =>
              refine ⟨k + 1, by omega, by go_num, by rw [HE.out], HSK.out, ?_⟩
              rw [HE.out]
              exact ⟨⟨v9, F6, _, H9.out.1, H9.out.2.1, H9.out.2.2, HG6.out.2.2.2.1, HG6.out.2.2.1⟩, HN.out.1, by show S1.l.length ≤ k + 1; have := HBD.out; have := HN.out; omega, by show 0 ≤ S1.c + _; have := HBD.out; have := cn_bd S1.zs 3; omega, by show S1.c + _ ≤ _; have := HBD.out; have := HN.out; have := cn_bd S1.zs 3; omega, by show S.2 ≤ k + 1; have := HN.out; omega⟩
            case measure => simp [intOf]; omega
        · have e : agIt (1 + (r : Int)) (wd 1 x) X (k + 1) = ({ S1 with c := S1.c + cn S1.zs 3 }, S.2) := by
            show agStep _ _ (agIt _ _ X k) = _
            rw [HSE.out]
            unfold agStep
            rw [← HSS.out.1, if_neg (fun h => hy h.1)]
          have HE := Lib.hid e
          clear e
          have hy' : (ld S1.zs 3 == 0) = false := by simpa using hy
          clear hy
          go_wp2
          go_roundw
          case rel =>
            refine ⟨k + 1, by omega, by go_num, by rw [HE.out], HSK.out, ?_⟩
            rw [HE.out]
            exact ⟨⟨v9, F6, _, H9.out.1, H9.out.2.1, H9.out.2.2, HG6.out.2.2.2.1, HG6.out.2.2.1⟩, HN.out.1, by show S1.l.length ≤ k + 1; have := HBD.out; have := HN.out; omega, by show 0 ≤ S1.c + _; have := HBD.out; have := cn_bd S1.zs 3; omega, by show S1.c + _ ≤ _; have := HBD.out; have := HN.out; have := cn_bd S1.zs 3; omega, by show S.2 ≤ k + 1; have := HN.out; omega⟩
          case measure => simp [intOf]; omega
      · rw [decide_eq_false hs]
        obtain ⟨K, hK, h1, h2⟩ := agAll (n := r + 1) (W := wd 1 x) (by have := HR5.out; omega) ⟨HW.out.1.1, HW.out.1.2, HW.out.2⟩ r 0 (by omega) (x := X) (by
          rw [HX.out]
          exact ⟨0, 0, 0, 0, 0, 0, 0, 0, 0, 0, 0, 0, 9, ([], []), [], [], R, rfl, ⟨HR.out.1.1, HR.out.1.2, HR.out.2⟩, rfl⟩)
        have hpa : ((r + 1 : Nat) : Int) = 1 + (r : Int) := by omega
        rw [hpa] at h1 h2
        have hkK : k = K := by
          rcases Nat.lt_trichotomy k K with h | h | h
          · have := h1 k h
            rw [HSE.out] at this
            unfold srv at this
            rw [HTE.out.1] at this
            exact absurd (of_decide_eq_true this) hs
          · exact h
          · have := HSV.out K h
            unfold srv at this
            have h3 := of_decide_eq_true this
            have h4 := h2.1
            omega
        rw [← hkK, HSE.out] at h2
        obtain ⟨e1, e2, e3, e4, e5⟩ := h2
        rw [HTE.out.1] at e1 e2
        have mo5 := HG.out.1.fresh HB5.out
        have tx5 := HG.out.2.1.keep HB5.out
        have C := mo5.loadC 2 (by have := HN.out; omega) (by have := HN.out; omega)
        rw [e3] at C
        have HC := Lib.hid C
        have H5 := Lib.hid tx5
        have HE5 := Lib.hid (And.intro e1 (And.intro e2 e5))
        obtain ⟨hr, hr5⟩ := HR5.out
        clear C mo5 tx5 h1 hkK hpa hs hK e1 e2 e3 e4 e5
        go_wp2_with fail
        with_reducible refine HC.out.mono ?_
        clear HC
        rintro e w6 ⟨rfl, v6, mo6, kp6, sz6⟩
        have H6 := Lib.hid (And.intro mo6 (H5.out.kp kp6 HG.out.2.2.2.1))
        clear mo6 kp6 sz6
        go_wp2_with fail
        refine (known w6).mono ?_
        rintro e w7 ⟨rfl, b7⟩
        have mo7 := H6.out.1.fresh b7
        have tx7 := H6.out.2.keep b7
        have c1 := tx7.c1
        rw [HE5.out.1] at c1
        have HI := Lib.hid (obItems mo7.ob)
        have H7 := Lib.hid (And.intro mo7 tx7)
        clear mo7 tx7 b7
        go_wp2_with fail
        refine HI.out.mono ?_
        rintro e w8 ⟨ai, ci, rfl, _, _, _, b8⟩
        have tx8 := H7.out.2.keep b8
        have c11 := tx8.c11
        rw [HE5.out.2.1] at c11
        rw [HE5.out.2.2]
        have HB8 := Lib.hid (H7.out.1.b.trans (b8.mono H7.out.1.b.size))
        clear tx8 b8
        go_wp2
        go_ret
        exact ⟨by simp, HB8.out⟩
    · exfalso
      obtain rfl : k = 400 := by omega
      obtain ⟨K, hK, h1, h2⟩ := agAll (n := r + 1) (W := wd 1 x) (by have := HR5.out; omega) ⟨HW.out.1.1, HW.out.1.2, HW.out.2⟩ r 0 (by omega) (x := X) (by
        rw [HX.out]
        exact ⟨0, 0, 0, 0, 0, 0, 0, 0, 0, 0, 0, 0, 9, ([], []), [], [], R, rfl, ⟨HR.out.1.1, HR.out.1.2, HR.out.2⟩, rfl⟩)
      have hpa : ((r + 1 : Nat) : Int) = 1 + (r : Int) := by omega
      rw [hpa] at h2
      have := HSV.out K (by have := HR5.out; omega)
      unfold srv at this
      have h3 := of_decide_eq_true this
      have h4 := h2.1
      omega
end Go.Proofs.YtikaoikladbdpaaGreat.M2
namespace Go.Proofs.YtikaoikladbdpaaGreat.M2
open Go.RowKit Go.Shelf

attribute [local go_sem] Oper.semAt_some

section
variable {w : World} {B p : Nat} {size st : Int} {zs : List Int} {ps : List Nat} {lost : Bool}

end

end Go.Proofs.YtikaoikladbdpaaGreat.M2
namespace Go.Proofs.YtikaoikladbdpaaGreat.M2
open Go.RowKit

theorem keepI {w w' : World} {n : Nat} {v : Value} {xs : List Int} (h : w.ownsRow n 3 1 v xs.length (xs.map (Value.int .i64))) (hb : Below w.heap.size w w') : w'.ownsRow n 3 1 v xs.length (xs.map (Value.int .i64)) :=
  _root_.Go.Proofs.YtikaoikladbdpaaGreat.own_keep h fun g hg => by
    obtain ⟨cs, e, _⟩ := LB.row h g hg
    exact hb.block g (lt_of_block e)
section
variable {w W W' w4 : World} {n : Nat} {size st : Int} {u v v' : Value} {xs : List Int} {x : Int}
end

section
variable {w : World} {B : Nat} {u : Value} {size : Int} {zs : List Int} {st : Int} {ps : List Nat} {lost : Bool}

end

end Go.Proofs.YtikaoikladbdpaaGreat.M2
