/-
  What the document's own Waiting (package reaperref14) tells. Conditions: at most 900 cells.
-/
import Derived.Test.YtllgcnljpehgeaaRefR14m
import Derived.Deep.RegionHeld3
import Derived.Deep.CutRange
namespace Go.Proofs.Ytllgcnljpehgeaa.M2
open Go.RowKit

section
variable {w : World} {B : Nat} {u : Value} {size : Int} {zs : List Int} {st : Int} {ps : List Nat} {lost : Bool}

set_option maxRecDepth 100000 in
set_option maxHeartbeats 8000000 in
theorem refWaiting (h : w.ownsRow B 2 1 u zs.length (zs.map (Value.int .i64))) (hl : zs.length ≤ 900) :
    Calls Try.prog 30 #[.agg #[.int .i64 size, u, .int .i64 st]] w fun e w' => ∃ v, e = .returned v ∧ IntsNew w (waitK zs (mn zs.length)) v w' := by
  obtain ⟨i0, hi, hz0, hz1, hz2⟩ := info_parts infoInt
  have HMX := Lib.hid (show mn zs.length ≤ 200 by unfold mn; omega)
  have HO := Lib.hid (fun (W : World) (hb : Below w.heap.size w W) => own_keep h hb)
  have HSI := Lib.hid (fun (W : World) (hb : Below w.heap.size w W) (j : Nat) (hj : j < mn zs.length) => refSeeIn (size := size) (st := st) (own_keep h hb) (by omega) j hj)
  have HRC := Lib.hid (fun (W : World) (hb : Below w.heap.size w W) => refRecords (size := size) (st := st) (own_keep h hb) (by omega))
  obtain ⟨ao, cap, rfl⟩ := ownShape h
  obtain ⟨W0, hW0⟩ : ∃ W, w.alloc (.cells #[.int .i64 size, .slice ao zs.length cap, .int .i64 st] 33) = W := ⟨_, rfl⟩
  have HR0 := Lib.hid (show RO w 0 size (.slice ao zs.length cap) st (.slice none 0 0) [] W0 by subst hW0; exact RO.new _ _ _ _ _)
  have C := HRC.out W0 HR0.out.2.2
  have HW0 := Lib.hid hW0
  have c0 := HR0.out.1.c0
  have c1 := HR0.out.1.c1
  have c2 := HR0.out.1.c2
  clear h hl hW0 HRC
  obtain ⟨NN, hNN⟩ : ∃ N, mn zs.length = N := ⟨_, rfl⟩
  generalize hn : zs.length = n at *
  rw [hNN] at C HMX HSI ⊢
  clear hn hNN
  go_enter Try.func30, Try.ntmps30
  go_wp2_with fail
  rw [HW0.out]
  refine C.mono ?_
  clear C c0 c1 c2 HW0
  rintro e w1 ⟨v, rfl, la, lc, rfl, hlr, b1⟩
  rw [recK_len]
  rw [recK_len] at hlr
  have HR1 := Lib.hid ((HR0.out.fresh b1).turn (m := w1.heap.size))
  have HW1 := Lib.hid (Nat.lt_of_lt_of_le (lt_of_block HR0.out.1) b1.size)
  have HLR := Lib.hid hlr
  clear hlr b1 HR0
  go_wp2
  go_loopw [3, 5] (fun v i wr => ∃ k : Nat, k ≤ NN ∧ i = .int .i64 k ∧ RO w w1.heap.size size (.slice ao n cap) st v (waitK zs k) wr ∧ Below w1.heap.size w1 wr) (fun _ i _ => NN - (intOf i).toNat)
  case atStart => exact ⟨0, Nat.zero_le _, rfl, HR1.out, Below.refl _ _⟩
  case round =>
    obtain ⟨k, hk, rfl, hR, hb⟩ := hrel
    obtain ⟨a2, cq, e2, hr2⟩ := hR.reads
    obtain ⟨m, hm⟩ : ∃ m, (waitK zs k).length = m := ⟨_, rfl⟩
    rw [hm] at e2 hr2
    subst e2
    have HML := Lib.hid hm
    have HMM := Lib.hid (show m ≤ k by rw [← hm]; exact waitK_len _ _)
    have HR := Lib.hid hR
    have HBe := Lib.hid hb
    clear hm hr2 hR hb HR1
    by_cases hlt : k < NN
    · obtain ⟨lb, lo, rfl, llt, hc⟩ := (HLR.out.keep HBe.out).2 (by omega)
      have c3 := hc k hlt
      rw [show (recK NN).getD k 0 = 3 + 5 * (k : Int) by simp [recK, List.getD, hlt]] at c3
      have c0 := HR.out.1.c0
      have c1 := HR.out.1.c1
      have c2 := HR.out.1.c2
      have hyes := @waitK_yes zs k
      have hno := @waitK_no zs k
      have hsee := fun (W : World) (hb : Below wr.heap.size wr W) => HSI.out W (HR.out.2.2.trans (hb.mono HR.out.2.2.size)) k hlt
      obtain ⟨a, ha⟩ : ∃ a : Int, 3 + 5 * (k : Int) = a := ⟨_, rfl⟩
      rw [ha] at c3 hyes hsee
      have HKE := Lib.hid (fun (W : World) (hb : Below wr.heap.size wr W) => And.intro (HR.out.1.keep hb).c0 (And.intro (HR.out.1.keep hb).c1 (And.intro (HR.out.1.keep hb).c2 ((hb.cell (p := ⟨lb, lo + k, none⟩) llt).trans c3))))
      generalize zs.getD (3 + 5 * k) 0 = z0 at *
      generalize zs.getD (3 + 5 * k + 1) 0 = z1 at *
      generalize zs.getD (3 + 5 * k + 2) 0 = z2 at *
      generalize zs.getD (3 + 5 * k + 3) 0 = z3 at *
      generalize zs.getD (3 + 5 * k + 4) 0 = z4 at *
      have HSee := Lib.hid hsee
      have HY := Lib.hid hyes
      have HNo := Lib.hid hno
      have HLT := Lib.hid hlt
      have k0 : (k : Int) < NN := by omega
      have k2 : (k : Int) ≤ 200 := by have := HMX.out; omega
      clear hyes hno hsee ha hk hc hlt
      go_upto_region 6 with (fail)
      go_cut [6, 7] from 16 to 24 (fun d x wx => ∃ N : Nat, d = .pointer (some ⟨N, 0, none⟩) ∧ x = .bool true ∧ Hid (B5 wx N 76 z0 z1 z2 z3 z4 ∧ Below wr.heap.size wr wx))
      case first =>
        have HCA := Lib.hid (HSee.out wr.drew (Below.refl _ _).drew)
        have HCB := Lib.hid (HSee.out (wr.drew.alloc (.cells #[.int .i64 0, .int .i64 0, .int .i64 0, .int .i64 0, .int .i64 0] 76)) ((Below.refl wr.heap.size wr).drew.alloc (Nat.le_refl _) _))
        have d0 := (HKE.out wr.drew (Below.refl _ _).drew).1
        have d1 := (HKE.out wr.drew (Below.refl _ _).drew).2.1
        have d2 := (HKE.out wr.drew (Below.refl _ _).drew).2.2.1
        have d3 := (HKE.out wr.drew (Below.refl _ _).drew).2.2.2
        have hq := HKE.out ((wr.alloc (.cells #[.int .i64 0, .int .i64 0, .int .i64 0, .int .i64 0, .int .i64 0] 76)).drew) ((Below.refl wr.heap.size wr).alloc (Nat.le_refl _) _).drew
        have q0 := hq.1
        have q1 := hq.2.1
        have q2 := hq.2.2.1
        have q3 := hq.2.2.2
        clear hq HSee
        go_wp2
        go_region_held3 (fun w' => w'.cell? ⟨w.heap.size, 0, none⟩ = some (.int .i64 size) ∧ w'.cell? ⟨w.heap.size, 1, none⟩ = some (.slice ao n cap) ∧ w'.cell? ⟨w.heap.size, 2, none⟩ = some (.int .i64 st) ∧ w'.cell? ⟨lb, lo + k, none⟩ = some (.int .i64 a)) (((try dsimp only); first
          | with_reducible exact ⟨c0, c1, c2, c3⟩ | with_reducible exact ⟨d0, d1, d2, d3⟩ | with_reducible exact ⟨q0, q1, q2, q3⟩ | with_reducible exact ⟨x0, x1, x2, x3⟩ | with_reducible exact ⟨v0, v1, v2, v3⟩ | with_reducible exact ⟨s0, s1, s2, s3⟩ | with_reducible exact ⟨p0, p1, p2, p3⟩))
          ((go_at_call 52; first
          | (refine HCA.out.mono ?_; rintro e w5 ⟨rfl, b5⟩
             have hb := (Below.refl wr.heap.size wr).drew.trans (b5.mono (Nat.le_refl wr.heap.size))
             have hx := HKE.out w5 hb
             have x0 := hx.1
             have x1 := hx.2.1
             have x2 := hx.2.2.1
             have x3 := hx.2.2.2
             have hv := HKE.out (w5.alloc (.cells #[.int .i64 0, .int .i64 0, .int .i64 0, .int .i64 0, .int .i64 0] 76)) (hb.alloc hb.size _)
             have v0 := hv.1
             have v1 := hv.2.1
             have v2 := hv.2.2.1
             have v3 := hv.2.2.2
             have hs := HKE.out (w5.alloc (.cells #[.int .i64 z0, .int .i64 z1, .int .i64 z2, .int .i64 z3, .int .i64 z4] 76)) (hb.alloc hb.size _)
             have s0 := hs.1
             have s1 := hs.2.1
             have s2 := hs.2.2.1
             have s3 := hs.2.2.2
             have HF := Lib.hid (And.intro (B5.new w5 76 z0 z1 z2 z3 z4) (hb.alloc hb.size (.cells #[.int .i64 z0, .int .i64 z1, .int .i64 z2, .int .i64 z3, .int .i64 z4] 76)))
             clear b5 hx hv hs hb)
          | (refine HCB.out.mono ?_; rintro e w5 ⟨rfl, b5⟩
             have hb := ((Below.refl wr.heap.size wr).drew.alloc (Nat.le_refl _) (.cells #[.int .i64 0, .int .i64 0, .int .i64 0, .int .i64 0, .int .i64 0] 76)).trans (b5.mono (by simp))
             have hx := HKE.out w5 hb
             have x0 := hx.1
             have x1 := hx.2.1
             have x2 := hx.2.2.1
             have x3 := hx.2.2.2
             have hz := (B5.new wr.drew 76 0 0 0 0 0).keep b5
             have y0 : w5.cell? ⟨wr.heap.size, 0, none⟩ = _ := hz.c0
             have y1 : w5.cell? ⟨wr.heap.size, 1, none⟩ = _ := hz.c1
             have y2 : w5.cell? ⟨wr.heap.size, 2, none⟩ = _ := hz.c2
             have y3 : w5.cell? ⟨wr.heap.size, 3, none⟩ = _ := hz.c3
             have y4 : w5.cell? ⟨wr.heap.size, 4, none⟩ = _ := hz.c4
             have yf : ∀ o, w5.frozen? ⟨wr.heap.size, o, none⟩ = false := hz.f
             have hs5 := ((((hb.setCell (p := ⟨wr.heap.size, 0, none⟩) (Nat.le_refl _) (.int .i64 z0)).setCell (p := ⟨wr.heap.size, 1, none⟩) (Nat.le_refl _) (.int .i64 z1)).setCell (p := ⟨wr.heap.size, 2, none⟩) (Nat.le_refl _) (.int .i64 z2)).setCell (p := ⟨wr.heap.size, 3, none⟩) (Nat.le_refl _) (.int .i64 z3)).setCell (p := ⟨wr.heap.size, 4, none⟩) (Nat.le_refl _) (.int .i64 z4)
             have hs := HKE.out _ hs5
             have p0 := hs.1
             have p1 := hs.2.1
             have p2 := hs.2.2.1
             have p3 := hs.2.2.2
             have HF := Lib.hid (And.intro (hz.set5 z0 z1 z2 z3 z4) hs5)
             clear b5 hx hs hs5 hz hb)))
        all_goals
          go_wp2
          go_meet
          exact ⟨_, rfl, rfl, HF⟩
      case' rest => skip
      obtain ⟨N, rfl, rfl, HF⟩ := hcut
      have r0 := HF.out.1.c0
      have HRC2 := Lib.hid (HR.out.fresh HF.out.2)
      have HBC := Lib.hid (HBe.out.trans (HF.out.2.mono HBe.out.size))
      have e3 := (HKE.out wc HF.out.2).2.2.2
      have HRL := Lib.hid (show wc.ownsRow w1.heap.size 3 1 (.slice a2 m cq) m ((waitK zs k).map (Value.int .i64)) by have := HRC2.out.2.1; rwa [HML.out] at this)
      clear c0 c1 c2 c3 HKE HSee HR HBe HF
      by_cases hz : 0 < z0
      · have HX := Lib.hid (HY.out hz)
        clear HY HNo
        go_wp2_with (at_builtin; refine wpList_append_later rfl (.tmp 28) (.tmp 33) 28 rfl w1.heap.size 3 i0 _ 1 8 Try.underlying28 hi hz0 hz1 hz2 rfl (by decide) _ _ _ rfl (HRL.out.alloc _) ⟨_, 0, none⟩ 1 1 [.int .i64 a] rfl rfl (by intro j u hu; cases j <;> simp at hu; subst hu; go_simp) (by intro u hu; simp at hu; subst hu; rfl) (by have := HMX.out; have := HLT.out; have := HMM.out; simp only [maxLen]; omega) (by have := HMX.out; have := HLT.out; have := HMM.out; omega) (by have := HBC.out.size; simp; omega) ?_; intro v2 w2 q2 g2 _; obtain ⟨av, cv, rfl⟩ := _root_.Go.Proofs.Ytllgcnljpehgeaa.ownShape q2; have HN := Lib.hid (HRC2.out.put HW1.out (by rw [HML.out]; exact q2) g2); have HB2 := Lib.hid (HBC.out.trans (rowBelow HRC2.out.2.1 HBC.out.size g2)); clear q2 g2)
        rw [HX.out] at HN
        go_roundw
        case rel => exact ⟨k + 1, HLT.out, by go_num, HN.out, HB2.out⟩
        case measure => have := HLT.out; simp [intOf]; omega
      · have HX := Lib.hid (HNo.out hz)
        have hz : z0 ≤ 0 := by omega
        clear HY HNo
        go_wp2
        go_roundw
        case rel => exact ⟨k + 1, HLT.out, by go_num, by rw [HX.out]; exact HRC2.out, HBC.out⟩
        case measure => have := HLT.out; simp [intOf]; omega
    · obtain rfl : k = NN := by omega
      clear hlt hk
      go_wp2
      go_ret
      exact ⟨_, rfl, HR.out.told⟩
end

end Go.Proofs.Ytllgcnljpehgeaa.M2
