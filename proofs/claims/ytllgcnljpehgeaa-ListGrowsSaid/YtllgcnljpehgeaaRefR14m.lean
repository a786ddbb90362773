/-
  What the document's own Reach (package reaperref14) tells. Conditions: at most 1000 cells.
-/
import Derived.Test.YtllgcnljpehgeaaRefL14m
namespace Go.Proofs.Ytllgcnljpehgeaa.M2
open Go.RowKit

def lenV (v : Value) : Nat := match v with
  | .slice _ n _ => n
  | _ => 0

theorem B5.row {W w4 : World} {N n : Nat} {t : TypeId} {a b c d e : Int} {v : Value} {xs : List Int} {tmp : Obj} (h : B5 W N t a b c d e) (ht : t ≠ 3) (hr : W.ownsRow n 3 1 v xs.length (xs.map (Value.int .i64))) (hg : (W.alloc tmp).grownBy w4 v.ownBlock) : B5 w4 N t a b c d e := by
  refine ((hg.block N (by have := h.lt; simp; omega) ?_).trans (Below.heap_alloc _ _ _ h.lt)).trans h
  intro e
  obtain ⟨cs, e', _⟩ := LB.row hr N e.symm
  rw [show W.heap[N]? = _ from h] at e'
  simp only [Option.some.injEq, Obj.cells.injEq] at e'
  exact ht e'.2.1

section
variable {w : World} {B : Nat} {u : Value} {size : Int} {zs : List Int} {st : Int} {ps : List Nat} {lost : Bool}

set_option maxRecDepth 100000 in
set_option maxHeartbeats 8000000 in
theorem refReach (h : w.ownsRow B 2 1 u zs.length (zs.map (Value.int .i64))) (hl : zs.length ≤ 900) (hP : Path zs ps lost) :
    Calls Try.prog 27 #[.agg #[.int .i64 size, u, .int .i64 st]] w (ReachNew w ps lost) := by
  obtain ⟨i0, hi, hz0, hz1, hz2⟩ := info_parts infoInt
  have HMX := Lib.hid (show ps.length ≤ 200 by have := hP.len; unfold mn at this; omega)
  have HO := Lib.hid (fun (W : World) (hb : Below w.heap.size w W) => own_keep h hb)
  have HL := Lib.hid hl
  have HSI := Lib.hid (fun (W : World) (hb : Below w.heap.size w W) (j : Nat) (hj : j < mn zs.length) => refSeeIn (size := size) (st := st) (own_keep h hb) (by omega) j hj)
  have HSO := Lib.hid (fun (W : World) (hb : Below w.heap.size w W) (a : Int) (ha : ∀ k : Nat, k < mn zs.length → a ≠ 3 + 5 * (k : Int)) => refSeeOut (size := size) (st := st) (own_keep h hb) (by omega) a ha)
  have HP := Lib.hid hP
  obtain ⟨ao, cap, rfl⟩ := ownShape h
  obtain ⟨W0, hW0⟩ : ∃ W, w.alloc (.cells #[.int .i64 size, .slice ao zs.length cap, .int .i64 st] 33) = W := ⟨_, rfl⟩
  have HR0 := Lib.hid (show RO w (w.heap.size + 1) size (.slice ao zs.length cap) st (.slice none 0 0) [] W0 by subst hW0; exact RO.new _ _ _ _ _)
  have C : Calls Try.prog 51 #[.agg #[.int .i64 size, .slice ao zs.length cap, .int .i64 st], .int .i64 1] W0 fun e w' => e = .returned (.int .i64 (zs.getD 1 0)) ∧ Below W0.heap.size W0 w' := refAtAny (HO.out W0 HR0.out.2.2) 1
  have HW0 := Lib.hid hW0
  have c0 := HR0.out.1.c0
  have c1 := HR0.out.1.c1
  have c3 := HR0.out.1.c2
  clear h hl hP hW0
  generalize hn : zs.length = n at *
  have HNn := Lib.hid hn
  clear hn
  go_enter Try.func27, Try.ntmps27
  go_wp2_with fail
  rw [HW0.out]
  refine C.mono ?_
  clear C c0 c1 c3 HW0
  rintro e w1 ⟨rfl, b1⟩
  have HR1 := Lib.hid (HR0.out.fresh b1)
  rw [show zs.getD 1 0 = vAt zs ps 0 from rfl]
  clear b1 HR0
  go_wp2
  go_loopw [4, 5] (fun v i wr => ∃ k : Nat, k ≤ ps.length ∧ i = .int .i64 (vAt zs ps k) ∧ RO w (w.heap.size + 1) size (.slice ao n cap) st v (ints (ps.take k)) wr) (fun v _ _ => ps.length + 1 - lenV v)
  case atStart => exact ⟨0, Nat.zero_le _, rfl, HR1.out⟩
  case round =>
    obtain ⟨k, hk, rfl, hR⟩ := hrel
    obtain ⟨a2, c2, e2, hr2⟩ := hR.reads
    have hkl : (ints (ps.take k)).length = k := by rw [ints_len, List.length_take]; omega
    rw [hkl] at e2 hr2
    subst e2
    have HKL := Lib.hid hkl
    have HR := Lib.hid hR
    have HRD := Lib.hid hr2
    have c0 := hR.1.c0
    have c1 := hR.1.c1
    have c3 := hR.1.c2
    clear HR1 hR hr2 hkl
    by_cases hlt : k < ps.length
    · obtain ⟨j, hj, e2⟩ := HP.out.isr k hlt
      have e1 := HP.out.step k hlt
      have hnew := HP.out.new k hlt
      obtain ⟨a, ha⟩ : ∃ a : Int, 3 + 5 * (j : Int) = a := ⟨_, rfl⟩
      have ev : vAt zs ps k = a := by rw [e1, e2]; omega
      have C := HSI.out wr HR.out.2.2 j (by rw [← HNn.out]; exact hj)
      rw [ha] at C
      have nxt : zs.getD (3 + 5 * j + 3) 0 = vAt zs ps (k + 1) := by unfold vAt; rw [if_neg (by omega), Nat.add_sub_cancel, e2]
      have hX := ints_next hlt
      have hno : a ∉ ints (ps.take k) := by
        unfold ints
        rw [List.mem_map]
        rintro ⟨b, hb, e⟩
        apply hnew
        have : ps.getD k 0 = b := by omega
        rw [this]; exact hb
      rw [show ((ps.getD k 0 : Nat) : Int) = a by rw [e2]; omega] at hX
      rw [ev]
      have a3 : 3 ≤ a := by omega
      have a4 : a ≤ 1000 := by have := HL.out; unfold mn at hj; rw [HNn.out] at hj; omega
      have a0 : (a != 0) = true := by simp; omega
      generalize zs.getD (3 + 5 * j) 0 = z0 at *
      generalize zs.getD (3 + 5 * j + 1) 0 = z1 at *
      generalize zs.getD (3 + 5 * j + 2) 0 = z2 at *
      generalize zs.getD (3 + 5 * j + 3) 0 = z3 at *
      generalize zs.getD (3 + 5 * j + 4) 0 = z4 at *
      have HX := Lib.hid hX
      have HNo := Lib.hid hno
      have HT := Lib.hid nxt
      have HLT := Lib.hid hlt
      clear e1 e2 ev hnew nxt hX hno hj ha hlt hk
      go_wp2_with fail
      refine C.mono ?_
      clear C c0 c1 c3
      rintro e w1 ⟨rfl, b1⟩
      obtain ⟨V, hV⟩ : ∃ V, w1.alloc (.cells #[.int .i64 z0, .int .i64 z1, .int .i64 z2, .int .i64 z3, .int .i64 z4] 76) = V := ⟨_, rfl⟩
      have b3 : Below w1.heap.size w1 V := by subst hV; exact (Below.refl _ _).alloc (Nat.le_refl _) _
      have HB5 := Lib.hid (show B5 V w1.heap.size 76 z0 z1 z2 z3 z4 by subst hV; exact B5.new _ _ _ _ _ _ _)
      have HRV := Lib.hid ((HR.out.fresh b1).fresh b3)
      have C2 := refPlace V a2 k c2 (ints (ps.take k)) ((HRD.out.keep b1).keep b3) (by have := HMX.out; have := HLT.out; omega) a
      have HV := Lib.hid hV
      clear b1 b3 hV HR HRD
      go_wp2_with fail
      rw [HV.out]
      refine C2.mono ?_
      clear C2 HV
      rintro e w5 ⟨i, rfl, _, _, hi1, b5⟩
      obtain rfl := hi1 HNo.out
      have HR5 := Lib.hid (HRV.out.fresh b5)
      have HBX := Lib.hid (HB5.out.keep b5)
      have HSZ := Lib.hid (lt_of_block HR5.out.1)
      have HRL := Lib.hid (show w5.ownsRow (w.heap.size + 1) 3 1 (.slice a2 k c2) k ((ints (ps.take k)).map (Value.int .i64)) by have := HR5.out.2.1; rwa [HKL.out] at this)
      clear b5 HB5 HRV hi1
      generalize w1.heap.size = N at *
      go_wp2_with (at_builtin; refine wpList_append_later rfl (.tmp 32) (.tmp 34) 28 rfl (w.heap.size + 1) 3 i0 _ 1 8 Try.underlying28 hi hz0 hz1 hz2 rfl (by decide) _ _ _ rfl (HRL.out.alloc _) ⟨_, 0, none⟩ 1 1 [.int .i64 a] rfl rfl (by intro j u hu; cases j <;> simp at hu; subst hu; go_simp) (by intro u hu; simp at hu; subst hu; rfl) (by have := HMX.out; have := HLT.out; simp only [maxLen]; omega) (by have := HMX.out; have := HLT.out; omega) (by have := HSZ.out; simp; omega) ?_; intro v2 w2 q2 g2 _; obtain ⟨av, cv, rfl⟩ := _root_.Go.Proofs.Ytllgcnljpehgeaa.ownShape q2; have HN := Lib.hid (HR5.out.put (by omega) (by rw [HKL.out]; exact q2) g2); have r3 := (HBX.out.row (by decide) HR5.out.2.1 g2).c3; clear q2 g2)
      rw [HX.out] at HN
      go_roundw
      case rel => exact ⟨k + 1, HLT.out, by rw [HT.out], HN.out⟩
      case measure => have := HLT.out; simp [lenV]; omega
    · obtain rfl : k = ps.length := by omega
      have HTk := Lib.hid (show ps.take ps.length = ps from List.take_length)
      cases lost with
      | false =>
        have ev := HP.out.fin rfl
        rw [ev]
        clear ev hk hlt c0 c1 c3
        go_wp2
        go_ret2
        refine ⟨_, rfl, ?_⟩
        have := HR.out.told
        rwa [HTk.out] at this
      | true =>
        obtain ⟨hv0, hbad⟩ := HP.out.bad rfl
        have hbig := HP.out.big
        obtain ⟨a, ha⟩ : ∃ a, vAt zs ps ps.length = a := ⟨_, rfl⟩
        rw [ha] at hv0 hbad hbig ⊢
        have a0 : (a != 0) = true := by simpa using hv0
        clear hk hlt ha hbig
        by_cases hneg : a < 0
        · clear hbad hv0 c0 c1 c3
          go_wp2
          go_ret2
          exact ⟨_, rfl, IntsNew.nil w HR.out.2.2⟩
        by_cases hhigh : 1000 < a
        · clear hbad hv0 c0 c1 c3
          go_wp2
          go_ret2
          exact ⟨_, rfl, IntsNew.nil w HR.out.2.2⟩
        rcases hbad with hno | ⟨j, hj, hm, e⟩
        · have C := HSO.out wr HR.out.2.2 a (by rw [← HNn.out]; exact hno)
          clear hno hv0
          go_wp2_with fail
          refine C.mono ?_
          clear C c0 c1 c3
          rintro e w1 ⟨rfl, b1⟩
          have HB := Lib.hid (((HR.out.fresh b1).2.2).alloc ((HR.out.fresh b1).2.2).size (.cells #[.int .i64 0, .int .i64 0, .int .i64 0, .int .i64 0, .int .i64 0] 76))
          clear b1
          go_wp2
          go_ret2
          exact ⟨_, rfl, IntsNew.nil w HB.out⟩
        · have C := HSI.out wr HR.out.2.2 j (by rw [← HNn.out]; exact hj)
          rw [← e] at C
          have hin : a ∈ ints (ps.take ps.length) := by
            rw [HTk.out]
            unfold ints
            rw [List.mem_map]
            exact ⟨_, hm, by omega⟩
          have HIn := Lib.hid hin
          generalize zs.getD (3 + 5 * j) 0 = z0 at *
          generalize zs.getD (3 + 5 * j + 1) 0 = z1 at *
          generalize zs.getD (3 + 5 * j + 2) 0 = z2 at *
          generalize zs.getD (3 + 5 * j + 3) 0 = z3 at *
          generalize zs.getD (3 + 5 * j + 4) 0 = z4 at *
          clear hj hm e hv0 hin
          go_wp2_with fail
          refine C.mono ?_
          clear C c0 c1 c3
          rintro e w1 ⟨rfl, b1⟩
          obtain ⟨V, hV⟩ : ∃ V, w1.alloc (.cells #[.int .i64 z0, .int .i64 z1, .int .i64 z2, .int .i64 z3, .int .i64 z4] 76) = V := ⟨_, rfl⟩
          have b3 : Below w1.heap.size w1 V := by subst hV; exact (Below.refl _ _).alloc (Nat.le_refl _) _
          have HRV := Lib.hid ((HR.out.fresh b1).fresh b3)
          have C2 := refPlace V a2 ps.length c2 (ints (ps.take ps.length)) ((HRD.out.keep b1).keep b3) (by have := HMX.out; omega) a
          have HV := Lib.hid hV
          clear b1 b3 hV HR HRD
          go_wp2_with fail
          rw [HV.out]
          refine C2.mono ?_
          clear C2 HV
          rintro e w5 ⟨i, rfl, _, hi1, _, b5⟩
          have i1 := hi1 HIn.out
          have HB := Lib.hid (HRV.out.fresh b5).2.2
          clear b5 hi1 HRV
          go_wp2
          go_ret2
          exact ⟨_, rfl, IntsNew.nil w HB.out⟩
end

end Go.Proofs.Ytllgcnljpehgeaa.M2
