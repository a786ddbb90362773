/-
  A memory that is filled number by number beside the document's one (reaperlaw13.Memory), the place of its list told. Conditions: at most 200 numbers.
-/
import Derived.Test.YtikaoikladbdpaaGreatG2816
namespace Go.Proofs.YtikaoikladbdpaaGreat.M2
open Go.RowKit

def MadeT (w : World) (zs : List Int) (e : Ending) (w' : World) : Prop :=
  ∃ p u v, e = .returned (.tuple #[.pointer (some ⟨p, 0, none⟩), .agg #[.int .i64 (zs.length : Int), u, .int .i64 (1 + (zs.length : Int))]]) ∧ Mem w' w.heap.size p v zs.length zs (1 + (zs.length : Int)) ∧
    w'.ownsRow w.heap.size 2 1 u zs.length (zs.map (Value.int .i64)) ∧ (∀ g, u.ownBlock = some g → v.ownBlock ≠ some g) ∧ Below w.heap.size w w'

set_option maxRecDepth 100000 in
set_option maxHeartbeats 16000000 in
theorem memoryTwo (w : World) (ao : Option Addr) (len cap : Nat) (zs : List Int) (hz : Reads .i64 w ao len zs) (hl : len ≤ 200) :
    Calls Tryz.prog 16 #[.slice ao len cap] w (MadeT w zs) := by
  obtain rfl : zs.length = len := hz.1
  have HZ := Lib.hid hz
  clear hz
  have HS := Lib.hid (sizeOf'_self zs.length hl)
  have HL := Lib.hid hl
  obtain ⟨len, hlen⟩ : ∃ n, zs.length = n := ⟨_, rfl⟩
  rw [hlen] at HS HL hl ⊢
  have HE := Lib.hid hlen
  clear hlen
  go_enter Tryz.func16, Tryz.ntmps16
  go_wp2_with fail
  generalize hW : w.alloc (.cells #[.int .i64 0, .slice none 0 0, .int .i64 0] 41) = W
  have HT := Lib.hid (show Boxed W w.heap.size (.int .i64 0) (.slice none 0 0) (.int .i64 0) by subst hW; exact Boxed.new _ _ _ _)
  have HB := Lib.hid (show Below w.heap.size w W by subst hW; exact (Below.refl _ _).alloc (Nat.le_refl _) _)
  clear hW
  refine (newAny (len : Int) W).mono ?_
  rintro e w1 ⟨rfl, m1, b1⟩
  rw [HS.out] at m1
  have HM1 := Lib.hid m1
  have HT1 := Lib.hid (HT.out.keep b1)
  have HB1 := Lib.hid (HB.out.trans (b1.mono HB.out.size))
  have HX := Lib.hid (show w.heap.size < W.heap.size from HT.out.lt)
  clear b1 m1 HT
  go_wp2_with fail
  refine (refNew (len : Int) w1).mono ?_
  rintro e w2 ⟨rfl, b2⟩
  rw [HS.out]
  go_upto_region 3 with (fail)
  generalize hW3 : w2.alloc (.cells #[.int .i64 (len : Int), .slice none 0 0, .int .i64 0] 41) = W3
  have HBM := Lib.hid (show BM w w2.heap.size W.heap.size (.slice none 0 0) (.slice none 0 0) (len : Int) [] 0 [] 0 W3 by
    subst hW3
    have hb := b2.alloc b2.size (.cells #[.int .i64 (len : Int), .slice none 0 0, .int .i64 0] 41)
    have m := HM1.out.fresh hb
    refine ⟨⟨m.block, Nat.le_trans (Nat.le_of_lt HX.out) m.low, World.ownsRow_nil _ _ _ _, m.s0, m.s1, m.room⟩, World.ownsRow_nil _ _ _ _, by simp [Value.ownBlock], Boxed.new _ _ _ _, HT1.out.keep hb, ?_, HB1.out.trans (hb.mono HB1.out.size)⟩
    have := HT1.out.lt
    have := b2.size
    omega)
  clear hW3 b2 HM1 HT1 HB1 HB HX
  generalize w2.heap.size = rb at *
  generalize W.heap.size = p at *
  have C := refAllocOk (size := (len : Int)) (st := 0) HBM.out.o HBM.out.b.size len (by have := HL.out; omega) (by simp) (by simp) (by omega) (by omega)
  have c0 := HBM.out.r.c0
  have c1 := HBM.out.r.c1
  have c2 := HBM.out.r.c2
  go_wp2_with fail
  refine C.mono ?_
  clear C c0 c1 c2
  rintro e w4 ⟨u4, rfl, l4⟩
  have l4 : Left W3 w.heap.size (.slice none 0 0) (List.replicate len 0) u4 w4 := l4
  obtain ⟨a4, cp4, e4⟩ := ownShape l4.1
  rw [List.length_replicate] at e4
  subst e4
  have HAF := Lib.hid (AF.a HBM.out l4)
  clear l4 HBM
  go_upto_region 4 with (fail)
  generalize hW5 : w4.alloc (.cells #[.int .i64 (len : Int), .slice a4 len cp4, .int .i64 (0 + 1)] 41) = W5 at HAF
  have hW5' : w4.alloc (.cells #[.int .i64 (len : Int), .slice a4 len cp4, .int .i64 1] 41) = W5 := hW5
  rw [hW5']
  clear hW5 hW5'
  generalize w4.heap.size = nb at *
  have c0 := HAF.out.r2.c0
  have c1 := HAF.out.r2.c1
  have c2 := HAF.out.r2.c2
  have d0 := HAF.out.h.r.c0
  have d1 := HAF.out.h.r.c1
  have d2 := HAF.out.h.r.c2
  have df := HAF.out.h.r.f
  have C := HAF.out.turn.alloc len (by simp) (by omega) (by omega)
  go_wp2_with fail
  refine C.mono ?_
  clear C c0 c1 c2 d0 d1 d2 df
  rintro e w6 ⟨rfl, v6, bm6⟩
  have HM6 := Lib.hid (show BM w rb p v6 (.slice a4 len cp4) (len : Int) (setN (List.replicate len 0) 0 zs 0) (1 + ((0 : Nat) : Int)) (setN (List.replicate len 0) 0 zs 0) (1 + ((0 : Nat) : Int)) w6 from bm6)
  clear bm6 HAF
  go_wp2
  go_loopw [9] (fun iv wr => MemoRel w rb p zs iv wr) (fun iv _ => zs.length - (intOf iv).toNat)
  case atStart => exact ⟨0, v6, _, by omega, rfl, by rw [HE.out]; exact HM6.out⟩
  case round =>
    obtain ⟨k, v, u, hk, rfl, hbm⟩ := hrel
    have HBM := Lib.hid hbm
    clear hbm HM6
    rw [HE.out] at hk HBM
    obtain ⟨aq, cq, eq⟩ := ownShape HBM.out.o
    rw [setN_length, List.length_replicate] at eq
    subst eq
    by_cases hlt : k < len
    · have i0 : (k : Int) < (len : Int) := by omega
      obtain ⟨b, off, rfl, lb, hcs⟩ := HZ.out.2 (by have := HE.out; omega)
      have hck := hcs k (by have := HE.out; omega)
      have cz := (HBM.out.b.cell (p := ⟨b, off + k, none⟩) lb).trans hck
      clear hcs
      obtain ⟨z, hzz⟩ : ∃ z, zs.getD k 0 = z := ⟨_, rfl⟩
      obtain ⟨Y, hY⟩ : ∃ Y, setN (List.replicate len 0) 0 zs k = Y := ⟨_, rfl⟩
      obtain ⟨Z, hZ⟩ : ∃ Z, Y.set k z = Z := ⟨_, rfl⟩
      have HY1 := Lib.hid (show setN (List.replicate len 0) 0 zs (k + 1) = Z by rw [setN, hY, hzz, Nat.zero_add]; exact hZ)
      have hYl : Y.length = len := by rw [← hY, setN_length, List.length_replicate]
      have hZl : Z.length = len := by rw [← hZ, List.length_set]; exact hYl
      have HYL := Lib.hid hYl
      have HZL := Lib.hid hZl
      have HZ1 := Lib.hid hZ
      rw [hzz] at cz
      rw [hY] at HBM
      rw [hzz] at hck
      have HK := Lib.hid (show ∀ W, Below w.heap.size w W → W.cell? ⟨b, off + k, none⟩ = some (.int .i64 z) from fun W hW => (hW.cell (p := ⟨b, off + k, none⟩) lb).trans hck)
      clear hck
      clear hzz hY hZ hYl hZl
      have C := HBM.out.store (k : Int) z (by omega) (by have := HYL.out; omega) (by omega) (by omega)
      rw [show ((k : Int)).toNat = k by omega, HZ1.out] at C
      go_wp2_with fail
      refine C.mono ?_
      clear C cz
      rintro e w3 ⟨rfl, v3, bm3⟩
      have HB3 := Lib.hid bm3
      have HBd := Lib.hid (bm3.fresh (Below.refl _ _).drew)
      clear bm3 HBM
      have c0 := HK.out w3 HB3.out.b
      have c1 := HB3.out.r.c0
      have c2 := HB3.out.r.c1
      have c3 := HB3.out.r.c2
      have d0 := HK.out w3.drew HBd.out.b
      have d1 := HBd.out.r.c0
      have d2 := HBd.out.r.c1
      have d3 := HBd.out.r.c2
      go_upto_region 10 with (fail)
      go_cut [10, 11] from 44 to 53 (fun d x wx => ∃ (nb : Nat) (a2 : Option Addr) (cp2 : Nat), d = .pointer (some ⟨nb, 0, none⟩) ∧ x = .int .i64 0 ∧ Hid (AF w rb p nb v3 (.slice aq len cq) (.slice a2 len cp2) (len : Int) Z (1 + (k : Int) + 1) Y Z (1 + (k : Int)) wx))
      case first =>
        have HCA := Lib.hid (refStoreIn (size := (len : Int)) (st := 1 + (k : Int)) HBd.out.o HBd.out.b.size (k : Int) z (by omega) (by have := HYL.out; omega) (by have := HYL.out; have := HL.out; omega) (by omega) (by omega))
        have HCB := Lib.hid (refStoreIn (w := w3.drew.alloc (.cells #[.int .i64 0, .slice none 0 0, .int .i64 0] 41)) (size := (len : Int)) (st := 1 + (k : Int)) (HBd.out.o.alloc _) (Nat.le_trans HBd.out.b.size (by simp)) (k : Int) z (by omega) (by have := HYL.out; omega) (by have := HYL.out; have := HL.out; omega) (by omega) (by omega))
        rw [show ((k : Int)).toNat = k by omega, HZ1.out] at HCA HCB
        have hne : b ≠ w3.heap.size := by
          have := lb
          have := HB3.out.b.size
          omega
        have hnr : rb ≠ w3.heap.size := by
          have := HB3.out.r.lt
          omega
        have HNE := Lib.hid hne
        have HNR := Lib.hid hnr
        clear hne hnr
        have q0 : ((w3.alloc (.cells #[.int .i64 0, .slice none 0 0, .int .i64 0] 41)).drew).cell? ⟨b, off + k, none⟩ = some (.int .i64 z) := cellKept d0 _
        have q1 : ((w3.alloc (.cells #[.int .i64 0, .slice none 0 0, .int .i64 0] 41)).drew).cell? ⟨rb, 0, none⟩ = some (.int .i64 (len : Int)) := cellKept d1 _
        have q2 : ((w3.alloc (.cells #[.int .i64 0, .slice none 0 0, .int .i64 0] 41)).drew).cell? ⟨rb, 1, none⟩ = some (.slice aq len cq) := cellKept d2 _
        have q3 : ((w3.alloc (.cells #[.int .i64 0, .slice none 0 0, .int .i64 0] 41)).drew).cell? ⟨rb, 2, none⟩ = some (.int .i64 (1 + (k : Int))) := cellKept d3 _
        go_wp2
        go_region_held3 (fun w' => w'.cell? ⟨b, off + k, none⟩ = some (.int .i64 z) ∧ w'.cell? ⟨rb, 0, none⟩ = some (.int .i64 (len : Int)) ∧ w'.cell? ⟨rb, 1, none⟩ = some (.slice aq len cq) ∧ w'.cell? ⟨rb, 2, none⟩ = some (.int .i64 (1 + (k : Int)))) (((try dsimp only); first
          | with_reducible exact ⟨c0, c1, c2, c3⟩ | with_reducible exact ⟨d0, d1, d2, d3⟩ | with_reducible exact ⟨q0, q1, q2, q3⟩ | with_reducible exact ⟨cellKept c0 _, cellKept c1 _, cellKept c2 _, cellKept c3 _⟩ | with_reducible exact ⟨cellKept d0 _, cellKept d1 _, cellKept d2 _, cellKept d3 _⟩ | with_reducible exact ⟨x0, x1, x2, x3⟩ | with_reducible exact ⟨cellKept x0 _, cellKept x1 _, cellKept x2 _, cellKept x3 _⟩ | with_reducible exact ⟨other3 HNE.out x0 _ _ _, other3 HNR.out x1 _ _ _, other3 HNR.out x2 _ _ _, other3 HNR.out x3 _ _ _⟩))
          ((go_at_call 44; first
          | (refine HCA.out.mono ?_; rintro e w5 ⟨u5, rfl, l5⟩; obtain ⟨a5, cp5, e5⟩ := ownShape l5.1; rw [HZL.out] at e5; subst e5; have HF := Lib.hid (AF.a HBd.out l5); have hx := HBd.out.fresh l5.2.2; have x0 := HK.out w5 hx.b; have x1 := hx.r.c0; have x2 := hx.r.c1; have x3 := hx.r.c2; clear l5 hx)
          | (refine HCB.out.mono ?_; rintro e w5 ⟨u5, rfl, l5⟩; obtain ⟨a5, cp5, e5⟩ := ownShape l5.1; rw [HZL.out] at e5; subst e5; have HF := Lib.hid (AF.b HBd.out rfl l5); have hx := HBd.out.fresh (((Below.refl _ _).alloc (Nat.le_refl _) _).trans (l5.2.2.mono (by simp))); have x0 := HK.out w5 hx.b; have x1 := hx.r.c0; have x2 := hx.r.c1; have x3 := hx.r.c2; have hz := (Boxed.new w3.drew (.int .i64 0) (.slice none 0 0) (.int .i64 0)).keep l5.2.2; have y0 : w5.cell? ⟨w3.heap.size, 0, none⟩ = _ := hz.c0; have y1 : w5.cell? ⟨w3.heap.size, 1, none⟩ = _ := hz.c1; have y2 : w5.cell? ⟨w3.heap.size, 2, none⟩ = _ := hz.c2; have yf : ∀ o, w5.frozen? ⟨w3.heap.size, o, none⟩ = false := hz.f; clear l5 hx hz)))
        all_goals
          go_wp2
          go_meet
          exact ⟨_, _, _, rfl, rfl, HF⟩
      case' rest => skip
      obtain ⟨nb2, a2, cp2, rfl, rfl, HAF⟩ := hcut
      have e0 := HAF.out.r2.c0
      have e1 := HAF.out.r2.c1
      have e2 := HAF.out.r2.c2
      have g0 := HAF.out.h.r.c0
      have g1 := HAF.out.h.r.c1
      have g2 := HAF.out.h.r.c2
      have gf := HAF.out.h.r.f
      have HTN := Lib.hid HAF.out.turn
      clear c0 c1 c2 c3 d0 d1 d2 d3 HAF HB3 HBd
      go_wp2
      go_roundw
      case rel => exact ⟨k + 1, v3, _, by have := HE.out; omega, by go_num, by rw [HE.out, HY1.out, show (1 + ((k + 1 : Nat) : Int)) = 1 + (k : Int) + 1 by omega]; exact HTN.out⟩
      case measure => have := HE.out; simp [intOf]; omega
    · obtain rfl : k = len := by omega
      have HFIN := Lib.hid (show setN (List.replicate k 0) 0 zs k = zs by rw [← HE.out]; exact setN_all zs)
      rw [HFIN.out] at HBM
      have HBd := Lib.hid (HBM.out.fresh (Below.refl _ _).drew)
      have c1 := HBM.out.r.c0
      have c2 := HBM.out.r.c1
      have c3 := HBM.out.r.c2
      have d1 := HBd.out.r.c0
      have d2 := HBd.out.r.c1
      have d3 := HBd.out.r.c2
      have t0 := HBd.out.t.c0
      have t1 := HBd.out.t.c1
      have t2 := HBd.out.t.c2
      have tf := HBd.out.t.f
      have s0 := HBM.out.t.c0
      have s1 := HBM.out.t.c1
      have s2 := HBM.out.t.c2
      have sf := HBM.out.t.f
      have HNR := Lib.hid (show rb ≠ w.heap.size by have := HBM.out.l; omega)
      go_wp2
      go_region_held3 (fun w' => w'.cell? ⟨rb, 0, none⟩ = some (.int .i64 (k : Int)) ∧ w'.cell? ⟨rb, 1, none⟩ = some (.slice aq k cq) ∧ w'.cell? ⟨rb, 2, none⟩ = some (.int .i64 (1 + (k : Int)))) (first | with_reducible exact ⟨c1, c2, c3⟩ | with_reducible exact ⟨d1, d2, d3⟩ | with_reducible exact ⟨other3d HNR.out c1 _ _ _, other3d HNR.out c2 _ _ _, other3d HNR.out c3 _ _ _⟩) (fail)
      all_goals
        go_wp2
        have ne := own_ne_boxed HBM.out.o HBM.out.t
        have Z := ((HBM.out.t.set0 (.int .i64 (k : Int))).set1 (.slice aq k cq)).set2 (.int .i64 (1 + (k : Int)))
        have Zd : Boxed (((wr.setCell ⟨w.heap.size, 0, none⟩ (.int .i64 (k : Int))).setCell ⟨w.heap.size, 1, none⟩ (.slice aq k cq)).setCell ⟨w.heap.size, 2, none⟩ (.int .i64 (1 + (k : Int)))).drew w.heap.size (.int .i64 (k : Int)) (.slice aq k cq) (.int .i64 (1 + (k : Int))) := Z
        have hM := HBM.out.m
        have hp : w.heap.size ≠ p := by
          rintro e
          have e1 := hM.block
          have e2 := HBM.out.t
          unfold Boxed at e2
          rw [← e, e2] at e1
          simp at e1
        have hv := own_ne_boxed hM.own HBM.out.t
        refine bodyPost_ret (v := .tuple #[.pointer (some ⟨p, 0, none⟩), .agg #[.int .i64 (k : Int), .slice aq k cq, .int .i64 (1 + (k : Int))]]) (by simp [results, Tryz.results16, go_sem, Zd.c0, Zd.c1, Zd.c2]) rfl ⟨p, .slice aq k cq, v, by rw [HE.out], ?_, ?_, HBM.out.n, ?_⟩
        · rw [HE.out]
          exact (((hM.setOther (q := ⟨w.heap.size, 0, none⟩) hp hv _).setOther (q := ⟨w.heap.size, 1, none⟩) hp hv _).setOther (q := ⟨w.heap.size, 2, none⟩) hp hv _).drew
        · exact ownsRow_setCell_other (ownsRow_setCell_other (ownsRow_setCell_other HBM.out.o ne _) ne _) ne _
        · exact (((HBM.out.b.setCell (Nat.le_refl _) _).setCell (Nat.le_refl _) _).setCell (Nat.le_refl _) _).drew

end Go.Proofs.YtikaoikladbdpaaGreat.M2
