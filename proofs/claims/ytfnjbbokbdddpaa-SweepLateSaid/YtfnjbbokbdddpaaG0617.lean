/-
  What the document's own Reach (package reaperref14) tells. Conditions: at most 1000 cells. What the document's own Stale (package reaperref14) tells. Conditions: at most 900 cells. What the document's own Sound (package reaperref14) tells. Conditions: at most 900 cells. What the document's own Waiting (package reaperref14) tells. Conditions: at most 900 cells. A memory that is filled number by number beside the document's one (reaperlaw13.Memory): both hold the numbers that came in. Conditions: at most 200 numbers. A memory that is filled number by number beside the document's one (reaperlaw13.Memory). Conditions: at most 200 numbers. reaperlaw14.asks answers true, whatever the numbers and the age. Conditions: at most 200 numbers, none above the greatest int64. The chapter's example (reaperlaw14.known) is told. Conditions: none. The walk of ListChain: for all lists of bytes it answers true and leaves all old memory as it was. Cells with one of them another one (reaperlaw14.with), and what is told of cells (reaperlaw14.sound). Conditions: at most 200 numbers.
-/
import Derived.Test.YtfnjbbokbdddpaaG0517
import Derived.Test.YtfnjbbokbdddpaaG0317
import Derived.Deep.RegionHeld3
import Derived.Deep.CutRange
namespace Go.Proofs.Ytfnjbbokbdddpaa.M2
open Go.RowKit

def lenV (v : Value) : Nat := match v with
  | .slice _ n _ => n
  | _ => 0

theorem B5.row {W w4 : World} {N n : Nat} {t : TypeId} {a b c d e : Int} {v : Value} {xs : List Int} {tmp : Obj} (h : B5 W N t a b c d e) (ht : t ≠ 3) (hr : W.ownsRow n 3 1 v xs.length (xs.map (Value.int .i64))) (hg : (W.alloc tmp).grownBy w4 v.ownBlock) : B5 w4 N t a b c d e := by
  refine ((hg.block N (by have := h.lt; simp; omega) ?_).trans (Below.heap_alloc _ _ _ h.lt)).trans h
  intro e
  obtain ⟨cs, e', _⟩ := LB.row hr N e.symm
  rw [show W.heap[N]? = _ from h] at e'
  simp only [Option.some.injEq, Obj.cells.injEq] at e'
  exact ht e'.2.1

section
variable {w : World} {B : Nat} {u : Value} {size : Int} {zs : List Int} {st : Int} {ps : List Nat} {lost : Bool}

set_option maxRecDepth 100000 in
set_option maxHeartbeats 8000000 in
theorem refReach (h : w.ownsRow B 2 1 u zs.length (zs.map (Value.int .i64))) (hl : zs.length ≤ 900) (hP : Path zs ps lost) :
    Calls Try.prog 20 #[.agg #[.int .i64 size, u, .int .i64 st]] w (ReachNew w ps lost) := by
  obtain ⟨i0, hi, hz0, hz1, hz2⟩ := info_parts infoInt
  have HMX := Lib.hid (show ps.length ≤ 200 by have := hP.len; unfold mn at this; omega)
  have HO := Lib.hid (fun (W : World) (hb : Below w.heap.size w W) => own_keep h hb)
  have HL := Lib.hid hl
  have HSI := Lib.hid (fun (W : World) (hb : Below w.heap.size w W) (j : Nat) (hj : j < mn zs.length) => refSeeIn (size := size) (st := st) (own_keep h hb) (by omega) j hj)
  have HSO := Lib.hid (fun (W : World) (hb : Below w.heap.size w W) (a : Int) (ha : ∀ k : Nat, k < mn zs.length → a ≠ 3 + 5 * (k : Int)) => refSeeOut (size := size) (st := st) (own_keep h hb) (by omega) a ha)
  have HP := Lib.hid hP
  obtain ⟨ao, cap, rfl⟩ := ownShape h
  obtain ⟨W0, hW0⟩ : ∃ W, w.alloc (.cells #[.int .i64 size, .slice ao zs.length cap, .int .i64 st] 39) = W := ⟨_, rfl⟩
  have HR0 := Lib.hid (show RO w (w.heap.size + 1) size (.slice ao zs.length cap) st (.slice none 0 0) [] W0 by subst hW0; exact RO.new _ _ _ _ _)
  have C : Calls Try.prog 39 #[.agg #[.int .i64 size, .slice ao zs.length cap, .int .i64 st], .int .i64 1] W0 fun e w' => e = .returned (.int .i64 (zs.getD 1 0)) ∧ Below W0.heap.size W0 w' := refAtAny (HO.out W0 HR0.out.2.2) 1
  have HW0 := Lib.hid hW0
  have c0 := HR0.out.1.c0
  have c1 := HR0.out.1.c1
  have c3 := HR0.out.1.c2
  clear h hl hP hW0
  generalize hn : zs.length = n at *
  have HNn := Lib.hid hn
  clear hn
  go_enter Try.func20, Try.ntmps20
  go_wp2_with fail
  rw [HW0.out]
  refine C.mono ?_
  clear C c0 c1 c3 HW0
  rintro e w1 ⟨rfl, b1⟩
  have HR1 := Lib.hid (HR0.out.fresh b1)
  rw [show zs.getD 1 0 = vAt zs ps 0 from rfl]
  clear b1 HR0
  go_wp2
  go_loopw [4, 5] (fun v i wr => ∃ k : Nat, k ≤ ps.length ∧ i = .int .i64 (vAt zs ps k) ∧ RO w (w.heap.size + 1) size (.slice ao n cap) st v (ints (ps.take k)) wr) (fun v _ _ => ps.length + 1 - lenV v)
  case atStart => exact ⟨0, Nat.zero_le _, rfl, HR1.out⟩
  case round =>
    obtain ⟨k, hk, rfl, hR⟩ := hrel
    obtain ⟨a2, c2, e2, hr2⟩ := hR.reads
    have hkl : (ints (ps.take k)).length = k := by rw [ints_len, List.length_take]; omega
    rw [hkl] at e2 hr2
    subst e2
    have HKL := Lib.hid hkl
    have HR := Lib.hid hR
    have HRD := Lib.hid hr2
    have c0 := hR.1.c0
    have c1 := hR.1.c1
    have c3 := hR.1.c2
    clear HR1 hR hr2 hkl
    by_cases hlt : k < ps.length
    · obtain ⟨j, hj, e2⟩ := HP.out.isr k hlt
      have e1 := HP.out.step k hlt
      have hnew := HP.out.new k hlt
      obtain ⟨a, ha⟩ : ∃ a : Int, 3 + 5 * (j : Int) = a := ⟨_, rfl⟩
      have ev : vAt zs ps k = a := by rw [e1, e2]; omega
      have C := HSI.out wr HR.out.2.2 j (by rw [← HNn.out]; exact hj)
      rw [ha] at C
      have nxt : zs.getD (3 + 5 * j + 3) 0 = vAt zs ps (k + 1) := by unfold vAt; rw [if_neg (by omega), Nat.add_sub_cancel, e2]
      have hX := ints_next hlt
      have hno : a ∉ ints (ps.take k) := by
        unfold ints
        rw [List.mem_map]
        rintro ⟨b, hb, e⟩
        apply hnew
        have : ps.getD k 0 = b := by omega
        rw [this]; exact hb
      rw [show ((ps.getD k 0 : Nat) : Int) = a by rw [e2]; omega] at hX
      rw [ev]
      have a3 : 3 ≤ a := by omega
      have a4 : a ≤ 1000 := by have := HL.out; unfold mn at hj; rw [HNn.out] at hj; omega
      have a0 : (a != 0) = true := by simp; omega
      generalize zs.getD (3 + 5 * j) 0 = z0 at *
      generalize zs.getD (3 + 5 * j + 1) 0 = z1 at *
      generalize zs.getD (3 + 5 * j + 2) 0 = z2 at *
      generalize zs.getD (3 + 5 * j + 3) 0 = z3 at *
      generalize zs.getD (3 + 5 * j + 4) 0 = z4 at *
      have HX := Lib.hid hX
      have HNo := Lib.hid hno
      have HT := Lib.hid nxt
      have HLT := Lib.hid hlt
      clear e1 e2 ev hnew nxt hX hno hj ha hlt hk
      go_wp2_with fail
      refine C.mono ?_
      clear C c0 c1 c3
      rintro e w1 ⟨rfl, b1⟩
      obtain ⟨V, hV⟩ : ∃ V, w1.alloc (.cells #[.int .i64 z0, .int .i64 z1, .int .i64 z2, .int .i64 z3, .int .i64 z4] 79) = V := ⟨_, rfl⟩
      have b3 : Below w1.heap.size w1 V := by subst hV; exact (Below.refl _ _).alloc (Nat.le_refl _) _
      have HB5 := Lib.hid (show B5 V w1.heap.size 79 z0 z1 z2 z3 z4 by subst hV; exact B5.new _ _ _ _ _ _ _)
      have HRV := Lib.hid ((HR.out.fresh b1).fresh b3)
      have C2 := refPlace V a2 k c2 (ints (ps.take k)) ((HRD.out.keep b1).keep b3) (by have := HMX.out; have := HLT.out; omega) a
      have HV := Lib.hid hV
      clear b1 b3 hV HR HRD
      go_wp2_with fail
      rw [HV.out]
      refine C2.mono ?_
      clear C2 HV
      rintro e w5 ⟨i, rfl, _, _, hi1, b5⟩
      obtain rfl := hi1 HNo.out
      have HR5 := Lib.hid (HRV.out.fresh b5)
      have HBX := Lib.hid (HB5.out.keep b5)
      have HSZ := Lib.hid (lt_of_block HR5.out.1)
      have HRL := Lib.hid (show w5.ownsRow (w.heap.size + 1) 3 1 (.slice a2 k c2) k ((ints (ps.take k)).map (Value.int .i64)) by have := HR5.out.2.1; rwa [HKL.out] at this)
      clear b5 HB5 HRV hi1
      generalize w1.heap.size = N at *
      go_wp2_with (at_builtin; refine wpList_append_later rfl (.tmp 32) (.tmp 34) 34 rfl (w.heap.size + 1) 3 i0 _ 1 8 Try.underlying34 hi hz0 hz1 hz2 rfl (by decide) _ _ _ rfl (HRL.out.alloc _) ⟨_, 0, none⟩ 1 1 [.int .i64 a] rfl rfl (by intro j u hu; cases j <;> simp at hu; subst hu; go_simp) (by intro u hu; simp at hu; subst hu; rfl) (by have := HMX.out; have := HLT.out; simp only [maxLen]; omega) (by have := HMX.out; have := HLT.out; omega) (by have := HSZ.out; simp; omega) ?_; intro v2 w2 q2 g2 _; obtain ⟨av, cv, rfl⟩ := _root_.Go.Proofs.Ytfnjbbokbdddpaa.ownShape q2; have HN := Lib.hid (HR5.out.put (by omega) (by rw [HKL.out]; exact q2) g2); have r3 := (HBX.out.row (by decide) HR5.out.2.1 g2).c3; clear q2 g2)
      rw [HX.out] at HN
      go_roundw
      case rel => exact ⟨k + 1, HLT.out, by rw [HT.out], HN.out⟩
      case measure => have := HLT.out; simp [lenV]; omega
    · obtain rfl : k = ps.length := by omega
      have HTk := Lib.hid (show ps.take ps.length = ps from List.take_length)
      cases lost with
      | false =>
        have ev := HP.out.fin rfl
        rw [ev]
        clear ev hk hlt c0 c1 c3
        go_wp2
        go_ret2
        refine ⟨_, rfl, ?_⟩
        have := HR.out.told
        rwa [HTk.out] at this
      | true =>
        obtain ⟨hv0, hbad⟩ := HP.out.bad rfl
        have hbig := HP.out.big
        obtain ⟨a, ha⟩ : ∃ a, vAt zs ps ps.length = a := ⟨_, rfl⟩
        rw [ha] at hv0 hbad hbig ⊢
        have a0 : (a != 0) = true := by simpa using hv0
        clear hk hlt ha hbig
        by_cases hneg : a < 0
        · clear hbad hv0 c0 c1 c3
          go_wp2
          go_ret2
          exact ⟨_, rfl, IntsNew.nil w HR.out.2.2⟩
        by_cases hhigh : 1000 < a
        · clear hbad hv0 c0 c1 c3
          go_wp2
          go_ret2
          exact ⟨_, rfl, IntsNew.nil w HR.out.2.2⟩
        rcases hbad with hno | ⟨j, hj, hm, e⟩
        · have C := HSO.out wr HR.out.2.2 a (by rw [← HNn.out]; exact hno)
          clear hno hv0
          go_wp2_with fail
          refine C.mono ?_
          clear C c0 c1 c3
          rintro e w1 ⟨rfl, b1⟩
          have HB := Lib.hid (((HR.out.fresh b1).2.2).alloc ((HR.out.fresh b1).2.2).size (.cells #[.int .i64 0, .int .i64 0, .int .i64 0, .int .i64 0, .int .i64 0] 79))
          clear b1
          go_wp2
          go_ret2
          exact ⟨_, rfl, IntsNew.nil w HB.out⟩
        · have C := HSI.out wr HR.out.2.2 j (by rw [← HNn.out]; exact hj)
          rw [← e] at C
          have hin : a ∈ ints (ps.take ps.length) := by
            rw [HTk.out]
            unfold ints
            rw [List.mem_map]
            exact ⟨_, hm, by omega⟩
          have HIn := Lib.hid hin
          generalize zs.getD (3 + 5 * j) 0 = z0 at *
          generalize zs.getD (3 + 5 * j + 1) 0 = z1 at *
          generalize zs.getD (3 + 5 * j + 2) 0 = z2 at *
          generalize zs.getD (3 + 5 * j + 3) 0 = z3 at *
          generalize zs.getD (3 + 5 * j + 4) 0 = z4 at *
          clear hj hm e hv0 hin
          go_wp2_with fail
          refine C.mono ?_
          clear C c0 c1 c3
          rintro e w1 ⟨rfl, b1⟩
          obtain ⟨V, hV⟩ : ∃ V, w1.alloc (.cells #[.int .i64 z0, .int .i64 z1, .int .i64 z2, .int .i64 z3, .int .i64 z4] 79) = V := ⟨_, rfl⟩
          have b3 : Below w1.heap.size w1 V := by subst hV; exact (Below.refl _ _).alloc (Nat.le_refl _) _
          have HRV := Lib.hid ((HR.out.fresh b1).fresh b3)
          have C2 := refPlace V a2 ps.length c2 (ints (ps.take ps.length)) ((HRD.out.keep b1).keep b3) (by have := HMX.out; omega) a
          have HV := Lib.hid hV
          clear b1 b3 hV HR HRD
          go_wp2_with fail
          rw [HV.out]
          refine C2.mono ?_
          clear C2 HV
          rintro e w5 ⟨i, rfl, _, hi1, _, b5⟩
          have i1 := hi1 HIn.out
          have HB := Lib.hid (HRV.out.fresh b5).2.2
          clear b5 hi1 HRV
          go_wp2
          go_ret2
          exact ⟨_, rfl, IntsNew.nil w HB.out⟩
end

end Go.Proofs.Ytfnjbbokbdddpaa.M2
namespace Go.Proofs.Ytfnjbbokbdddpaa.M2
open Go.RowKit

section
variable {w : World} {B : Nat} {u : Value} {size : Int} {zs : List Int} {st : Int} {ps : List Nat} {lost : Bool}

def StaleRel (w w1 : World) (size : Int) (u : Value) (st : Int) (zs : List Int) (ps : List Nat) (age : Int) (v i : Value) (wr : World) : Prop :=
  ∃ k : Nat, 1 ≤ k ∧ k ≤ max 1 ps.length ∧ i = .int .i64 k ∧ RO w w1.heap.size size u st v (staleK zs ps age k) wr ∧ Below w1.heap.size w1 wr

theorem staleK_one (zs : List Int) (ps : List Nat) (age : Int) : staleK zs ps age 1 = [] := by simp [staleK, List.range_succ, oldAt]
theorem staleK_end (zs : List Int) (ps : List Nat) (age : Int) (k : Nat) (h0 : 1 ≤ k) (h1 : k ≤ max 1 ps.length) (h2 : ¬ k < ps.length) : staleK zs ps age k = staleK zs ps age ps.length := by
  by_cases hk : k = ps.length
  · rw [hk]
  · have e1 : k = 1 := by omega
    have e2 : ps.length = 0 := by omega
    rw [e1, e2, staleK_one]
    rfl

set_option maxRecDepth 100000 in
set_option maxHeartbeats 8000000 in
theorem refStale (h : w.ownsRow B 2 1 u zs.length (zs.map (Value.int .i64))) (hl : zs.length ≤ 900) (hP : Path zs ps lost) (age : Int) :
    Calls Try.prog 16 #[.agg #[.int .i64 size, u, .int .i64 st], .int .i64 age] w fun e w' => ∃ v, e = .returned v ∧ IntsNew w (if lost then [] else staleK zs ps age ps.length) v w' := by
  obtain ⟨i0, hi, hz0, hz1, hz2⟩ := info_parts infoInt
  have HMX := Lib.hid (show ps.length ≤ 200 by have := hP.len; unfold mn at this; omega)
  have HSI := Lib.hid (fun (W : World) (hb : Below w.heap.size w W) (j : Nat) (hj : j < mn zs.length) => refSeeIn (size := size) (st := st) (own_keep h hb) (by omega) j hj)
  have HAt := Lib.hid (fun (W : World) (hb : Below w.heap.size w W) => refAtAny (size := size) (st := st) (own_keep h hb) 2)
  have HRC := Lib.hid (fun (W : World) (hb : Below w.heap.size w W) => refReach (size := size) (st := st) (own_keep h hb) hl hP)
  have HP := Lib.hid hP
  obtain ⟨ao, cap, rfl⟩ := ownShape h
  obtain ⟨W0, hW0⟩ : ∃ W, w.alloc (.cells #[.int .i64 size, .slice ao zs.length cap, .int .i64 st] 39) = W := ⟨_, rfl⟩
  have HR0 := Lib.hid (show RO w 0 size (.slice ao zs.length cap) st (.slice none 0 0) [] W0 by subst hW0; exact RO.new _ _ _ _ _)
  have C := HRC.out W0 HR0.out.2.2
  have HW0 := Lib.hid hW0
  have c0 := HR0.out.1.c0
  have c1 := HR0.out.1.c1
  have c2 := HR0.out.1.c2
  obtain ⟨pass, hpass⟩ : ∃ z, zs.getD 2 0 = z := ⟨_, rfl⟩
  rw [hpass] at HAt
  have HPass := Lib.hid hpass
  clear h hl hW0 HRC hP hpass
  obtain ⟨NN, hNN⟩ : ∃ N, mn zs.length = N := ⟨_, rfl⟩
  generalize hn : zs.length = n at *
  rw [hNN] at HSI
  have HNN := Lib.hid (show mn zs.length = NN by rw [hn]; exact hNN)
  clear hn hNN
  go_enter Try.func16, Try.ntmps16
  go_wp2_with fail
  rw [HW0.out]
  refine C.mono ?_
  clear C c0 c1 c2 HW0
  rintro e w1 ⟨v, rfl, la, lc, rfl, hlr, b1⟩
  have HR1 := Lib.hid ((HR0.out.fresh b1).turn (m := w1.heap.size))
  have HW1 := Lib.hid (Nat.lt_of_lt_of_le (lt_of_block HR0.out.1) b1.size)
  clear HR0 b1
  cases lost with
  | true =>
    clear hlr
    simp only [if_true, List.length_nil, Bool.not_true]
    go_wp2
    go_loopw [5, 8] (fun v i wr => v = .slice none 0 0 ∧ i = .int .i64 1 ∧ Hid (w1 = wr)) (fun _ _ _ => 0)
    case atStart => exact ⟨rfl, rfl, rfl⟩
    case round =>
      obtain ⟨rfl, rfl, hw⟩ := hrel
      have hw : w1 = wr := hw
      subst hw
      go_wp2
      go_ret
      exact ⟨_, rfl, IntsNew.nil w HR1.out.2.2⟩
  | false =>
    simp only [Bool.false_eq_true, if_false, ints_len, Bool.not_false]
    simp only [Bool.false_eq_true, if_false, ints_len] at hlr
    have HLR := Lib.hid hlr
    clear hlr
    go_wp2
    go_loopw [5, 8] (fun v i wr => StaleRel w w1 size (.slice ao n cap) st zs ps age v i wr) (fun _ i _ => ps.length + 1 - (intOf i).toNat)
    case atStart => exact ⟨1, Nat.le_refl _, by omega, rfl, by rw [staleK_one]; exact HR1.out, Below.refl _ _⟩
    case round =>
      obtain ⟨k, hk1, hk, rfl, hR, hb⟩ := hrel
      obtain ⟨a2, cq, e2, hr2⟩ := hR.reads
      obtain ⟨m, hm⟩ : ∃ m, (staleK zs ps age k).length = m := ⟨_, rfl⟩
      rw [hm] at e2 hr2
      subst e2
      have HML := Lib.hid hm
      have HMM := Lib.hid (show m ≤ k by rw [← hm]; exact staleK_len _ _ _ _)
      have HR := Lib.hid hR
      have HBe := Lib.hid hb
      have HK1 := Lib.hid hk1
      have HKM := Lib.hid hk
      clear hm hr2 hR hb HR1 hk1 hk
      by_cases hlt : k < ps.length
      · obtain ⟨j, hj, e2⟩ := HP.out.isr k hlt
        obtain ⟨lb, lo, rfl, llt, hc⟩ := (HLR.out.keep HBe.out).2 (by omega)
        have c3 := hc k hlt
        have hyes := @staleK_yes zs ps age k
        have hno := @staleK_no zs ps age k
        have hat : oldAt zs ps age k = oldB (zs.getD (ps.getD k 0) 0) (zs.getD (ps.getD k 0 + 1) 0) (zs.getD (ps.getD k 0 + 2) 0) pass age := by
          unfold oldAt
          rw [HPass.out, decide_eq_true HK1.out, Bool.true_and]
        have hsee := fun (W : World) (hb : Below wr.heap.size wr W) => HSI.out W (HR.out.2.2.trans (hb.mono HR.out.2.2.size)) j (by rw [← HNN.out]; exact hj)
        obtain ⟨a, ha⟩ : ∃ a : Int, 3 + 5 * (j : Int) = a := ⟨_, rfl⟩
        rw [show (ints ps).getD k 0 = a by rw [← ha]; simp only [ints, List.getD_eq_getElem?_getD, List.getElem?_map] at e2 ⊢; rw [show ps[k]? = some (3 + 5 * j) by simp only [List.getElem?_eq_getElem hlt, Option.getD_some] at e2 ⊢; rw [e2]]; simp] at c3
        rw [show ((ps.getD k 0 : Nat) : Int) = a by rw [e2]; omega] at hyes
        rw [e2] at hat
        rw [ha] at hsee
        have c0 := HR.out.1.c0
        have c1 := HR.out.1.c1
        have c2 := HR.out.1.c2
        have HKE := Lib.hid (fun (W : World) (hb : Below wr.heap.size wr W) => And.intro (HR.out.1.keep hb).c0 (And.intro (HR.out.1.keep hb).c1 (And.intro (HR.out.1.keep hb).c2 ((hb.cell (p := ⟨lb, lo + k, none⟩) llt).trans c3))))
        generalize zs.getD (3 + 5 * j) 0 = z0 at *
        generalize zs.getD (3 + 5 * j + 1) 0 = z1 at *
        generalize zs.getD (3 + 5 * j + 2) 0 = z2 at *
        generalize zs.getD (3 + 5 * j + 3) 0 = z3 at *
        generalize zs.getD (3 + 5 * j + 4) 0 = z4 at *
        have HSee := Lib.hid hsee
        have HY := Lib.hid hyes
        have HNo := Lib.hid hno
        have HLT := Lib.hid hlt
        have HAO := Lib.hid hat
        have k0 : (k : Int) < ps.length := by omega
        have k2 : (k : Int) ≤ 200 := by have := HMX.out; omega
        clear hyes hno hsee ha hc hlt hat e2 hj
        go_upto_region 6 with (fail)
        go_cut [9, 10] from 22 to 30 (fun d x wx => ∃ N : Nat, d = .pointer (some ⟨N, 0, none⟩) ∧ x = .bool true ∧ Hid (B5 wx N 79 z0 z1 z2 z3 z4 ∧ Below wr.heap.size wr wx))
        case first =>
          have HCA := Lib.hid (HSee.out wr.drew (Below.refl _ _).drew)
          have HCB := Lib.hid (HSee.out (wr.drew.alloc (.cells #[.int .i64 0, .int .i64 0, .int .i64 0, .int .i64 0, .int .i64 0] 79)) ((Below.refl wr.heap.size wr).drew.alloc (Nat.le_refl _) _))
          have d0 := (HKE.out wr.drew (Below.refl _ _).drew).1
          have d1 := (HKE.out wr.drew (Below.refl _ _).drew).2.1
          have d2 := (HKE.out wr.drew (Below.refl _ _).drew).2.2.1
          have d3 := (HKE.out wr.drew (Below.refl _ _).drew).2.2.2
          have hq := HKE.out ((wr.alloc (.cells #[.int .i64 0, .int .i64 0, .int .i64 0, .int .i64 0, .int .i64 0] 79)).drew) ((Below.refl wr.heap.size wr).alloc (Nat.le_refl _) _).drew
          have q0 := hq.1
          have q1 := hq.2.1
          have q2 := hq.2.2.1
          have q3 := hq.2.2.2
          clear hq HSee
          go_wp2
          go_region_held3 (fun w' => w'.cell? ⟨w.heap.size, 0, none⟩ = some (.int .i64 size) ∧ w'.cell? ⟨w.heap.size, 1, none⟩ = some (.slice ao n cap) ∧ w'.cell? ⟨w.heap.size, 2, none⟩ = some (.int .i64 st) ∧ w'.cell? ⟨lb, lo + k, none⟩ = some (.int .i64 a)) (((try dsimp only); first
            | with_reducible exact ⟨c0, c1, c2, c3⟩ | with_reducible exact ⟨d0, d1, d2, d3⟩ | with_reducible exact ⟨q0, q1, q2, q3⟩ | with_reducible exact ⟨x0, x1, x2, x3⟩ | with_reducible exact ⟨v0, v1, v2, v3⟩ | with_reducible exact ⟨s0, s1, s2, s3⟩ | with_reducible exact ⟨p0, p1, p2, p3⟩))
            ((go_at_call 38; first
            | (refine HCA.out.mono ?_; rintro e w5 ⟨rfl, b5⟩
               have hb := (Below.refl wr.heap.size wr).drew.trans (b5.mono (Nat.le_refl wr.heap.size))
               have hx := HKE.out w5 hb
               have x0 := hx.1
               have x1 := hx.2.1
               have x2 := hx.2.2.1
               have x3 := hx.2.2.2
               have hv := HKE.out (w5.alloc (.cells #[.int .i64 0, .int .i64 0, .int .i64 0, .int .i64 0, .int .i64 0] 79)) (hb.alloc hb.size _)
               have v0 := hv.1
               have v1 := hv.2.1
               have v2 := hv.2.2.1
               have v3 := hv.2.2.2
               have hs := HKE.out (w5.alloc (.cells #[.int .i64 z0, .int .i64 z1, .int .i64 z2, .int .i64 z3, .int .i64 z4] 79)) (hb.alloc hb.size _)
               have s0 := hs.1
               have s1 := hs.2.1
               have s2 := hs.2.2.1
               have s3 := hs.2.2.2
               have HF := Lib.hid (And.intro (B5.new w5 79 z0 z1 z2 z3 z4) (hb.alloc hb.size (.cells #[.int .i64 z0, .int .i64 z1, .int .i64 z2, .int .i64 z3, .int .i64 z4] 79)))
               clear b5 hx hv hs hb)
            | (refine HCB.out.mono ?_; rintro e w5 ⟨rfl, b5⟩
               have hb := ((Below.refl wr.heap.size wr).drew.alloc (Nat.le_refl _) (.cells #[.int .i64 0, .int .i64 0, .int .i64 0, .int .i64 0, .int .i64 0] 79)).trans (b5.mono (by simp))
               have hx := HKE.out w5 hb
               have x0 := hx.1
               have x1 := hx.2.1
               have x2 := hx.2.2.1
               have x3 := hx.2.2.2
               have hz := (B5.new wr.drew 79 0 0 0 0 0).keep b5
               have y0 : w5.cell? ⟨wr.heap.size, 0, none⟩ = _ := hz.c0
               have y1 : w5.cell? ⟨wr.heap.size, 1, none⟩ = _ := hz.c1
               have y2 : w5.cell? ⟨wr.heap.size, 2, none⟩ = _ := hz.c2
               have y3 : w5.cell? ⟨wr.heap.size, 3, none⟩ = _ := hz.c3
               have y4 : w5.cell? ⟨wr.heap.size, 4, none⟩ = _ := hz.c4
               have yf : ∀ o, w5.frozen? ⟨wr.heap.size, o, none⟩ = false := hz.f
               have hs5 := ((((hb.setCell (p := ⟨wr.heap.size, 0, none⟩) (Nat.le_refl _) (.int .i64 z0)).setCell (p := ⟨wr.heap.size, 1, none⟩) (Nat.le_refl _) (.int .i64 z1)).setCell (p := ⟨wr.heap.size, 2, none⟩) (Nat.le_refl _) (.int .i64 z2)).setCell (p := ⟨wr.heap.size, 3, none⟩) (Nat.le_refl _) (.int .i64 z3)).setCell (p := ⟨wr.heap.size, 4, none⟩) (Nat.le_refl _) (.int .i64 z4)
               have hs := HKE.out _ hs5
               have p0 := hs.1
               have p1 := hs.2.1
               have p2 := hs.2.2.1
               have p3 := hs.2.2.2
               have HF := Lib.hid (And.intro (hz.set5 z0 z1 z2 z3 z4) hs5)
               clear b5 hx hs hs5 hz hb)))
          all_goals
            go_wp2
            go_meet
            exact ⟨_, rfl, rfl, HF⟩
        case' rest => skip
        obtain ⟨N, rfl, rfl, HF⟩ := hcut
        have HRC2 := Lib.hid (HR.out.fresh HF.out.2)
        have HBC := Lib.hid (HBe.out.trans (HF.out.2.mono HBe.out.size))
        have HC2 := Lib.hid (HF.out.2)
        have HB5 := Lib.hid HF.out.1
        have CA : Calls Try.prog 39 #[.agg #[.int .i64 size, .slice ao n cap, .int .i64 st], .int .i64 2] wc.drew fun e w' => e = .returned (.int .i64 pass) ∧ Below wc.drew.heap.size wc.drew w' := HAt.out wc.drew HRC2.out.2.2.drew
        have HCA := Lib.hid CA
        clear c0 c1 c2 c3 HSee HR HBe HF CA
        go_upto_region 7 with (fail)
        go_cut [47] from 31 to 47 (fun s wx => s = .bool (oldB z0 z1 z2 pass age) ∧ Hid (Below wc.heap.size wc wx))
        case first =>
          have r0 := HB5.out.c0
          have r1 := HB5.out.c1
          have r2 := HB5.out.c2
          by_cases h1 : z1 = 1
          · by_cases h0 : z0 = 0
            · have HOB := Lib.hid (show oldB z0 z1 z2 pass age = decide (age < wrap64 (pass - z2)) by rw [h0, h1]; rfl)
              subst h0 h1
              have c0 := HRC2.out.1.c0
              have c1 := HRC2.out.1.c1
              have c2 := HRC2.out.1.c2
              have HKC := Lib.hid (fun (W : World) (hb : Below wc.heap.size wc W) => And.intro (HRC2.out.1.keep hb).c0 (And.intro (HRC2.out.1.keep hb).c1 (And.intro (HRC2.out.1.keep hb).c2 (And.intro (HB5.out.keep hb).c0 (And.intro (HB5.out.keep hb).c1 (HB5.out.keep hb).c2)))))
              have hd := HKC.out wc.drew (Below.refl _ _).drew
              obtain ⟨d0, d1, d2, d3, d4, d5⟩ := hd
              go_wp2
              go_region_held3 (fun w' => w'.cell? ⟨w.heap.size, 0, none⟩ = some (.int .i64 size) ∧ w'.cell? ⟨w.heap.size, 1, none⟩ = some (.slice ao n cap) ∧ w'.cell? ⟨w.heap.size, 2, none⟩ = some (.int .i64 st) ∧ w'.cell? ⟨N, 0, none⟩ = some (.int .i64 0) ∧ w'.cell? ⟨N, 1, none⟩ = some (.int .i64 1) ∧ w'.cell? ⟨N, 2, none⟩ = some (.int .i64 z2)) (((try dsimp only); first
                | with_reducible exact ⟨c0, c1, c2, r0, r1, r2⟩ | with_reducible exact ⟨d0, d1, d2, d3, d4, d5⟩ | with_reducible exact ⟨x0, x1, x2, x3, x4, x5⟩))
                ((go_at_call 39; first
                | (refine HCA.out.mono ?_; rintro e w5 ⟨rfl, b5⟩; have hb := (Below.refl wc.heap.size wc).drew.trans (b5.mono (Nat.le_refl wc.heap.size)); obtain ⟨x0, x1, x2, x3, x4, x5⟩ := HKC.out w5 hb; have HFB := Lib.hid hb; clear b5 hb)))
              all_goals
                go_wp2
                go_meet
                exact ⟨by rw [HOB.out, IntWalk.i64_left], HFB⟩
            · have HOB := Lib.hid (show oldB z0 z1 z2 pass age = false by simp [oldB, h0])
              have h0 : (z0 == 0) = false := by simpa using h0
              subst h1
              go_wp2
              go_quiet (fail)
              go_wp2
              go_meet
              exact ⟨by rw [HOB.out], Lib.hid (below_drewN (Below.refl _ _) _)⟩
          · have HOB := Lib.hid (show oldB z0 z1 z2 pass age = false by simp [oldB, h1])
            have h1 : (z1 == 1) = false := by simpa using h1
            go_wp2
            go_quiet (fail)
            go_wp2
            go_meet
            exact ⟨by rw [HOB.out], Lib.hid (below_drewN (Below.refl _ _) _)⟩
        case' rest => skip
        obtain ⟨rfl, HB7⟩ := hcut
        have HRC3 := Lib.hid (HRC2.out.fresh HB7.out)
        have HBD := Lib.hid (HBC.out.trans (HB7.out.mono HBC.out.size))
        have e3 := (HKE.out _ (HC2.out.trans (HB7.out.mono HC2.out.size))).2.2.2
        have HRL := Lib.hid (show wc.ownsRow w1.heap.size 3 1 (.slice a2 m cq) m ((staleK zs ps age k).map (Value.int .i64)) by have := HRC3.out.2.1; rwa [HML.out] at this)
        clear HKE HRC2 HC2 HB5 HB7 HCA
        rcases hob : oldB z0 z1 z2 pass age with _ | _
        · have HX := Lib.hid (HNo.out (by rw [HAO.out, hob]))
          clear HY HNo HAO hob
          go_wp2
          go_roundw
          case rel => exact ⟨k + 1, by omega, by have := HLT.out; omega, by go_num, by rw [HX.out]; exact HRC3.out, HBD.out⟩
          case measure => have := HLT.out; simp [intOf]; omega
        · have HX := Lib.hid (HY.out (by rw [HAO.out, hob]))
          clear HY HNo HAO hob
          go_wp2_with (at_builtin; refine wpList_append_later rfl (.tmp 48) (.tmp 53) 34 rfl w1.heap.size 3 i0 _ 1 8 Try.underlying34 hi hz0 hz1 hz2 rfl (by decide) _ _ _ rfl (HRL.out.alloc _) ⟨_, 0, none⟩ 1 1 [.int .i64 a] rfl rfl (by intro j u hu; cases j <;> simp at hu; subst hu; go_simp) (by intro u hu; simp at hu; subst hu; rfl) (by have := HMX.out; have := HLT.out; have := HMM.out; simp only [maxLen]; omega) (by have := HMX.out; have := HLT.out; have := HMM.out; omega) (by have := HBD.out.size; simp; omega) ?_; intro v2 w2 q2 g2 _; obtain ⟨av, cv, rfl⟩ := _root_.Go.Proofs.Ytfnjbbokbdddpaa.ownShape q2; have HN := Lib.hid (HRC3.out.put HW1.out (by rw [HML.out]; exact q2) g2); have HB2 := Lib.hid (HBD.out.trans (rowBelow HRC3.out.2.1 HBD.out.size g2)); clear q2 g2)
          rw [HX.out] at HN
          go_roundw
          case rel => exact ⟨k + 1, by omega, by have := HLT.out; omega, by go_num, HN.out, HB2.out⟩
          case measure => have := HLT.out; simp [intOf]; omega
      · have HEnd := Lib.hid (staleK_end zs ps age k HK1.out HKM.out hlt)
        have k9 : (ps.length : Int) ≤ k := by omega
        clear hlt
        go_wp2
        go_ret
        exact ⟨_, rfl, by rw [← HEnd.out]; exact HR.out.told⟩
end

end Go.Proofs.Ytfnjbbokbdddpaa.M2
namespace Go.Proofs.Ytfnjbbokbdddpaa.M2
open Go.RowKit

section
variable {w : World} {B : Nat} {u : Value} {size : Int} {zs : List Int} {st : Int} {ps : List Nat} {lost : Bool}

def idleR (zs : List Int) (ps : List Nat) (k : Nat) : Bool := (List.range k).any (fun j => decide (zs.getD (3 + 5 * j + 1) 0 = 0) && decide (3 + 5 * j ∈ ps))
theorem idleR_next (zs : List Int) (ps : List Nat) (k : Nat) : idleR zs ps (k + 1) = (idleR zs ps k || (decide (zs.getD (3 + 5 * k + 1) 0 = 0) && decide (3 + 5 * k ∈ ps))) := by
  unfold idleR
  rw [List.range_succ, List.any_append]
  simp
theorem idleR_yes {zs : List Int} {ps : List Nat} {k n : Nat} (h1 : zs.getD (3 + 5 * k + 1) 0 = 0) (h2 : 3 + 5 * k ∈ ps) (hk : k < n) : idleR zs ps n = true := by
  unfold idleR
  rw [List.any_eq_true]
  exact ⟨k, by simpa using hk, by simp only [h1, h2, decide_true, Bool.and_self]⟩
theorem idle_eq (hP : Path zs ps lost) : idleK zs ps ps.length = idleR zs ps (mn zs.length) := by
  have h1 : idleK zs ps ps.length = true ↔ idleR zs ps (mn zs.length) = true := by
    unfold idleK idleR
    rw [List.take_length, List.any_eq_true, List.any_eq_true]
    constructor
    · rintro ⟨a, ha, he⟩
      obtain ⟨k, hk, e⟩ := List.mem_iff_getElem.1 ha
      obtain ⟨j, hj, e2⟩ := hP.isr k hk
      have e3 : a = 3 + 5 * j := by rw [← e2, ← e]; simp [List.getD, hk]
      subst e3
      exact ⟨j, by simpa using hj, by rw [Bool.and_eq_true]; exact ⟨he, decide_eq_true ha⟩⟩
    · rintro ⟨j, _, he⟩
      rw [Bool.and_eq_true] at he
      exact ⟨3 + 5 * j, of_decide_eq_true he.2, he.1⟩
  cases hx : idleK zs ps ps.length <;> cases hy : idleR zs ps (mn zs.length) <;> simp_all
theorem mem_ints (ps : List Nat) (j : Nat) : (3 + 5 * (j : Int)) ∈ ints ps ↔ 3 + 5 * j ∈ ps := by
  unfold ints
  rw [List.mem_map]
  constructor
  · rintro ⟨a, ha, e⟩
    have : a = 3 + 5 * j := by omega
    rw [← this]; exact ha
  · intro h
    exact ⟨_, h, by omega⟩

def SoundRel (w w1 : World) (size : Int) (u : Value) (st : Int) (NN : Nat) (P : Nat → Prop) (i : Value) (wr : World) : Prop :=
  ∃ k : Nat, k ≤ NN ∧ i = .int .i64 k ∧ Boxed wr w.heap.size (.int .i64 size) u (.int .i64 st) ∧ Below w.heap.size w wr ∧ Below w1.heap.size w1 wr ∧ P k

set_option maxRecDepth 100000 in
set_option maxHeartbeats 8000000 in
theorem refSound (h : w.ownsRow B 2 1 u zs.length (zs.map (Value.int .i64))) (hl : zs.length ≤ 900) (hP : Path zs ps lost) :
    Calls Try.prog 22 #[.agg #[.int .i64 size, u, .int .i64 st]] w fun e w' => e = .returned (.int .i64 (soundV zs ps lost)) ∧ Below w.heap.size w w' := by
  have HMX := Lib.hid (show mn zs.length ≤ 200 by unfold mn; omega)
  have HPL := Lib.hid (show ps.length ≤ 200 by have := hP.len; unfold mn at this; omega)
  have HSI := Lib.hid (fun (W : World) (hb : Below w.heap.size w W) (j : Nat) (hj : j < mn zs.length) => refSeeIn (size := size) (st := st) (own_keep h hb) (by omega) j hj)
  have HRC := Lib.hid (fun (W : World) (hb : Below w.heap.size w W) => refReach (size := size) (st := st) (own_keep h hb) hl hP)
  have HRD := Lib.hid (fun (W : World) (hb : Below w.heap.size w W) => refRecords (size := size) (st := st) (own_keep h hb) (by omega))
  have HIE := Lib.hid (idle_eq hP)
  obtain ⟨ao, cap, rfl⟩ := ownShape h
  obtain ⟨W0, hW0⟩ : ∃ W, w.alloc (.cells #[.int .i64 size, .slice ao zs.length cap, .int .i64 st] 39) = W := ⟨_, rfl⟩
  have HR0 := Lib.hid (show RO w 0 size (.slice ao zs.length cap) st (.slice none 0 0) [] W0 by subst hW0; exact RO.new _ _ _ _ _)
  have C := HRC.out W0 HR0.out.2.2
  have HW0 := Lib.hid hW0
  have c0 := HR0.out.1.c0
  have c1 := HR0.out.1.c1
  have c2 := HR0.out.1.c2
  clear h hl hW0 HRC hP
  obtain ⟨NN, hNN⟩ : ∃ N, mn zs.length = N := ⟨_, rfl⟩
  have HSV := Lib.hid (show soundV zs ps lost = if lost then 30 else if idleR zs ps NN then 33 else if goneK zs ps NN then 31 else 0 by unfold soundV; rw [HIE.out, hNN])
  generalize hn : zs.length = n at *
  rw [hNN] at HMX HSI HRD
  clear hn hNN HIE
  go_enter Try.func22, Try.ntmps22
  go_wp2_with fail
  rw [HW0.out]
  refine C.mono ?_
  clear C c0 c1 c2 HW0
  rintro e w0 ⟨v, rfl, la, lc, rfl, hlr, b1⟩
  have HR1 := Lib.hid (HR0.out.fresh b1)
  clear HR0 b1
  cases lost with
  | true =>
    clear hlr
    simp only [if_true, List.length_nil, Bool.not_true]
    go_wp2
    go_ret
    exact ⟨by rw [HSV.out]; rfl, HR1.out.2.2⟩
  | false =>
    simp only [Bool.false_eq_true, if_false, ints_len, Bool.not_false]
    simp only [Bool.false_eq_true, if_false, ints_len] at hlr
    have C := HRD.out w0 HR1.out.2.2
    have HLR := Lib.hid hlr
    have c0 := HR1.out.1.c0
    have c1 := HR1.out.1.c1
    have c2 := HR1.out.1.c2
    clear hlr HRD
    go_wp2_with fail
    refine C.mono ?_
    clear C c0 c1 c2
    rintro e w1 ⟨v, rfl, ra, rc, rfl, hrr, b1⟩
    rw [recK_len]
    rw [recK_len] at hrr
    have HR2 := Lib.hid (HR1.out.fresh b1)
    have HLL := Lib.hid (HLR.out.keep b1)
    have HRR := Lib.hid hrr
    clear hrr b1 HR1 HLR
    go_wp2
    go_loopw [6] (fun i wr => SoundRel w w1 size (.slice ao n cap) st NN (fun k => idleR zs ps k = false) i wr) (fun i _ => NN - (intOf i).toNat)
    case atStart => exact ⟨0, Nat.zero_le _, rfl, HR2.out.1, HR2.out.2.2, Below.refl _ _, rfl⟩
    case round =>
      obtain ⟨k, hk, rfl, hX, hB, hb, hI⟩ := hrel
      have HX := Lib.hid hX
      have HB := Lib.hid hB
      have HBe := Lib.hid hb
      have HI := Lib.hid hI
      clear hX hB hb hI HR2
      by_cases hlt : k < NN
      · obtain ⟨lb, lo, hra, llt, hc⟩ := (HRR.out.keep HBe.out).2 (by omega)
        subst hra
        have c3 := hc k hlt
        rw [show (recK NN).getD k 0 = 3 + 5 * (k : Int) by simp [recK, List.getD, hlt]] at c3
        have c0 := HX.out.c0
        have c1 := HX.out.c1
        have c2 := HX.out.c2
        have hnx := idleR_next zs ps k
        have hyes := fun h1 h2 => @idleR_yes zs ps k NN h1 h2 hlt
        have hsee := fun (W : World) (hb : Below wr.heap.size wr W) => HSI.out W (HB.out.trans (hb.mono HB.out.size)) k hlt
        have hmem := mem_ints ps k
        obtain ⟨a, ha⟩ : ∃ a : Int, 3 + 5 * (k : Int) = a := ⟨_, rfl⟩
        rw [ha] at c3 hsee hmem
        have HKE := Lib.hid (fun (W : World) (hb : Below wr.heap.size wr W) => And.intro (HX.out.keep hb).c0 (And.intro (HX.out.keep hb).c1 (And.intro (HX.out.keep hb).c2 ((hb.cell (p := ⟨lb, lo + k, none⟩) llt).trans c3))))
        generalize zs.getD (3 + 5 * k) 0 = z0 at *
        generalize zs.getD (3 + 5 * k + 1) 0 = z1 at *
        generalize zs.getD (3 + 5 * k + 2) 0 = z2 at *
        generalize zs.getD (3 + 5 * k + 3) 0 = z3 at *
        generalize zs.getD (3 + 5 * k + 4) 0 = z4 at *
        have HSee := Lib.hid hsee
        have HNX := Lib.hid hnx
        have HY := Lib.hid hyes
        have HMem := Lib.hid hmem
        have HLT := Lib.hid hlt
        have k0 : (k : Int) < NN := by omega
        have k2 : (k : Int) ≤ 200 := by have := HMX.out; omega
        clear hyes hnx hsee ha hk hc hlt hmem
        go_upto_region 8 with (fail)
        go_cut [7, 8] from 27 to 35 (fun d x wx => ∃ N : Nat, d = .pointer (some ⟨N, 0, none⟩) ∧ x = .bool true ∧ Hid (B5 wx N 79 z0 z1 z2 z3 z4 ∧ Below wr.heap.size wr wx))
        case first =>
          have HCA := Lib.hid (HSee.out wr.drew (Below.refl _ _).drew)
          have HCB := Lib.hid (HSee.out (wr.drew.alloc (.cells #[.int .i64 0, .int .i64 0, .int .i64 0, .int .i64 0, .int .i64 0] 79)) ((Below.refl wr.heap.size wr).drew.alloc (Nat.le_refl _) _))
          have d0 := (HKE.out wr.drew (Below.refl _ _).drew).1
          have d1 := (HKE.out wr.drew (Below.refl _ _).drew).2.1
          have d2 := (HKE.out wr.drew (Below.refl _ _).drew).2.2.1
          have d3 := (HKE.out wr.drew (Below.refl _ _).drew).2.2.2
          have hq := HKE.out ((wr.alloc (.cells #[.int .i64 0, .int .i64 0, .int .i64 0, .int .i64 0, .int .i64 0] 79)).drew) ((Below.refl wr.heap.size wr).alloc (Nat.le_refl _) _).drew
          have q0 := hq.1
          have q1 := hq.2.1
          have q2 := hq.2.2.1
          have q3 := hq.2.2.2
          clear hq HSee
          go_wp2
          go_region_held3 (fun w' => w'.cell? ⟨w.heap.size, 0, none⟩ = some (.int .i64 size) ∧ w'.cell? ⟨w.heap.size, 1, none⟩ = some (.slice ao n cap) ∧ w'.cell? ⟨w.heap.size, 2, none⟩ = some (.int .i64 st) ∧ w'.cell? ⟨lb, lo + k, none⟩ = some (.int .i64 a)) (((try dsimp only); first
            | with_reducible exact ⟨c0, c1, c2, c3⟩ | with_reducible exact ⟨d0, d1, d2, d3⟩ | with_reducible exact ⟨q0, q1, q2, q3⟩ | with_reducible exact ⟨x0, x1, x2, x3⟩ | with_reducible exact ⟨v0, v1, v2, v3⟩ | with_reducible exact ⟨s0, s1, s2, s3⟩ | with_reducible exact ⟨p0, p1, p2, p3⟩))
            ((go_at_call 38; first
            | (refine HCA.out.mono ?_; rintro e w5 ⟨rfl, b5⟩
               have hb := (Below.refl wr.heap.size wr).drew.trans (b5.mono (Nat.le_refl wr.heap.size))
               have hx := HKE.out w5 hb
               have x0 := hx.1
               have x1 := hx.2.1
               have x2 := hx.2.2.1
               have x3 := hx.2.2.2
               have hv := HKE.out (w5.alloc (.cells #[.int .i64 0, .int .i64 0, .int .i64 0, .int .i64 0, .int .i64 0] 79)) (hb.alloc hb.size _)
               have v0 := hv.1
               have v1 := hv.2.1
               have v2 := hv.2.2.1
               have v3 := hv.2.2.2
               have hs := HKE.out (w5.alloc (.cells #[.int .i64 z0, .int .i64 z1, .int .i64 z2, .int .i64 z3, .int .i64 z4] 79)) (hb.alloc hb.size _)
               have s0 := hs.1
               have s1 := hs.2.1
               have s2 := hs.2.2.1
               have s3 := hs.2.2.2
               have HF := Lib.hid (And.intro (B5.new w5 79 z0 z1 z2 z3 z4) (hb.alloc hb.size (.cells #[.int .i64 z0, .int .i64 z1, .int .i64 z2, .int .i64 z3, .int .i64 z4] 79)))
               clear b5 hx hv hs hb)
            | (refine HCB.out.mono ?_; rintro e w5 ⟨rfl, b5⟩
               have hb := ((Below.refl wr.heap.size wr).drew.alloc (Nat.le_refl _) (.cells #[.int .i64 0, .int .i64 0, .int .i64 0, .int .i64 0, .int .i64 0] 79)).trans (b5.mono (by simp))
               have hx := HKE.out w5 hb
               have x0 := hx.1
               have x1 := hx.2.1
               have x2 := hx.2.2.1
               have x3 := hx.2.2.2
               have hz := (B5.new wr.drew 79 0 0 0 0 0).keep b5
               have y0 : w5.cell? ⟨wr.heap.size, 0, none⟩ = _ := hz.c0
               have y1 : w5.cell? ⟨wr.heap.size, 1, none⟩ = _ := hz.c1
               have y2 : w5.cell? ⟨wr.heap.size, 2, none⟩ = _ := hz.c2
               have y3 : w5.cell? ⟨wr.heap.size, 3, none⟩ = _ := hz.c3
               have y4 : w5.cell? ⟨wr.heap.size, 4, none⟩ = _ := hz.c4
               have yf : ∀ o, w5.frozen? ⟨wr.heap.size, o, none⟩ = false := hz.f
               have hs5 := ((((hb.setCell (p := ⟨wr.heap.size, 0, none⟩) (Nat.le_refl _) (.int .i64 z0)).setCell (p := ⟨wr.heap.size, 1, none⟩) (Nat.le_refl _) (.int .i64 z1)).setCell (p := ⟨wr.heap.size, 2, none⟩) (Nat.le_refl _) (.int .i64 z2)).setCell (p := ⟨wr.heap.size, 3, none⟩) (Nat.le_refl _) (.int .i64 z3)).setCell (p := ⟨wr.heap.size, 4, none⟩) (Nat.le_refl _) (.int .i64 z4)
               have hs := HKE.out _ hs5
               have p0 := hs.1
               have p1 := hs.2.1
               have p2 := hs.2.2.1
               have p3 := hs.2.2.2
               have HF := Lib.hid (And.intro (hz.set5 z0 z1 z2 z3 z4) hs5)
               clear b5 hx hs hs5 hz hb)))
          all_goals
            go_wp2
            go_meet
            exact ⟨_, rfl, rfl, HF⟩
        case' rest => skip
        obtain ⟨N, rfl, rfl, HF⟩ := hcut
        have r1 := HF.out.1.c1
        have HX2 := Lib.hid (HX.out.keep HF.out.2)
        have HB2 := Lib.hid (HB.out.trans (HF.out.2.mono HB.out.size))
        have HBC := Lib.hid (HBe.out.trans (HF.out.2.mono HBe.out.size))
        have e3 := (HKE.out wc HF.out.2).2.2.2
        have C := refPlace wc la ps.length lc (ints ps) (HLL.out.keep HBC.out) (by have := HPL.out; omega) a
        clear c0 c1 c2 c3 HKE HSee HX HB HBe HF
        by_cases hz : z1 = 0
        · subst hz
          go_wp2_with fail
          refine C.mono ?_
          clear C e3 r1
          rintro e w5 ⟨i, rfl, hi0, hi1, hi2, b5⟩
          by_cases hm : 3 + 5 * k ∈ ps
          · have i1 := hi1 (HMem.out.2 hm)
            have HE := Lib.hid (HY.out trivial hm)
            have HB5 := Lib.hid (HB2.out.trans (b5.mono HB2.out.size))
            clear hi0 hi1 hi2 b5 hm
            go_wp2
            go_ret
            exact ⟨by rw [HSV.out, HE.out]; rfl, HB5.out⟩
          · obtain rfl := hi2 (fun h => hm (HMem.out.1 h))
            have HE := Lib.hid (show idleR zs ps (k + 1) = false by rw [HNX.out, HI.out]; simp [hm])
            have HX5 := Lib.hid (HX2.out.keep b5)
            have HB5 := Lib.hid (HB2.out.trans (b5.mono HB2.out.size))
            have HC5 := Lib.hid (HBC.out.trans (b5.mono HBC.out.size))
            clear hi0 hi1 hi2 b5 hm
            go_wp2
            go_roundw
            case rel => exact ⟨k + 1, HLT.out, by go_num, HX5.out, HB5.out, HC5.out, HE.out⟩
            case measure => have := HLT.out; simp [intOf]; omega
        · have HE := Lib.hid (show idleR zs ps (k + 1) = false by rw [HNX.out, HI.out]; simp [hz])
          have hz : (z1 == 0) = false := by simpa using hz
          clear C
          go_wp2
          go_roundw
          case rel => exact ⟨k + 1, HLT.out, by go_num, HX2.out, HB2.out, HBC.out, HE.out⟩
          case measure => have := HLT.out; simp [intOf]; omega
      · have hkn : NN = k := by omega
        subst hkn
        clear hlt hk
        go_wp2
        go_loopw [9] (fun i wr => SoundRel w w1 size (.slice ao n cap) st NN (fun k => goneK zs ps k = false) i wr) (fun i _ => NN - (intOf i).toNat)
        case atStart => exact ⟨0, Nat.zero_le _, rfl, HX.out, HB.out, HBe.out, rfl⟩
        case round =>
          clear HX HB HBe
          obtain ⟨k, hk, rfl, hX, hB, hb, hG⟩ := hrel
          have HX := Lib.hid hX
          have HB := Lib.hid hB
          have HBe := Lib.hid hb
          have HG := Lib.hid hG
          clear hX hB hb hG
          by_cases hlt : k < NN
          · obtain ⟨lb, lo, hra, llt, hc⟩ := (HRR.out.keep HBe.out).2 (by omega)
            subst hra
            have c3 := hc k hlt
            rw [show (recK NN).getD k 0 = 3 + 5 * (k : Int) by simp [recK, List.getD, hlt]] at c3
            have c0 := HX.out.c0
            have c1 := HX.out.c1
            have c2 := HX.out.c2
            have hgn := goneK_next zs ps k
            have hgy := @goneK_yes zs ps k NN
            have hgb : goneB zs ps k = (!decide (3 + 5 * k ∈ ps) && (decide (zs.getD (3 + 5 * k + 1) 0 = 1) && !decide (zs.getD (3 + 5 * k) 0 = -1))) := rfl
            have hsee := fun (W : World) (hb : Below wr.heap.size wr W) => HSI.out W (HB.out.trans (hb.mono HB.out.size)) k hlt
            have hmem := mem_ints ps k
            obtain ⟨a, ha⟩ : ∃ a : Int, 3 + 5 * (k : Int) = a := ⟨_, rfl⟩
            rw [ha] at c3 hsee hmem
            have HKE := Lib.hid (fun (W : World) (hb : Below wr.heap.size wr W) => And.intro (HX.out.keep hb).c0 (And.intro (HX.out.keep hb).c1 (And.intro (HX.out.keep hb).c2 ((hb.cell (p := ⟨lb, lo + k, none⟩) llt).trans c3))))
            generalize zs.getD (3 + 5 * k) 0 = z0 at *
            generalize zs.getD (3 + 5 * k + 1) 0 = z1 at *
            generalize zs.getD (3 + 5 * k + 2) 0 = z2 at *
            generalize zs.getD (3 + 5 * k + 3) 0 = z3 at *
            generalize zs.getD (3 + 5 * k + 4) 0 = z4 at *
            have HSee := Lib.hid hsee
            have HGN := Lib.hid hgn
            have HGY := Lib.hid hgy
            have HGB := Lib.hid hgb
            have HMem := Lib.hid hmem
            have HLT := Lib.hid hlt
            have k0 : (k : Int) < NN := by omega
            have k2 : (k : Int) ≤ 200 := by have := HMX.out; omega
            clear hgn hgy hgb hsee ha hk hc hlt hmem
            go_upto_region 14 with (fail)
            go_cut [10, 11] from 54 to 62 (fun d x wx => ∃ N : Nat, d = .pointer (some ⟨N, 0, none⟩) ∧ x = .bool true ∧ Hid (B5 wx N 79 z0 z1 z2 z3 z4 ∧ Below wr.heap.size wr wx))
            case first =>
              have HCA := Lib.hid (HSee.out wr.drew (Below.refl _ _).drew)
              have HCB := Lib.hid (HSee.out (wr.drew.alloc (.cells #[.int .i64 0, .int .i64 0, .int .i64 0, .int .i64 0, .int .i64 0] 79)) ((Below.refl wr.heap.size wr).drew.alloc (Nat.le_refl _) _))
              have d0 := (HKE.out wr.drew (Below.refl _ _).drew).1
              have d1 := (HKE.out wr.drew (Below.refl _ _).drew).2.1
              have d2 := (HKE.out wr.drew (Below.refl _ _).drew).2.2.1
              have d3 := (HKE.out wr.drew (Below.refl _ _).drew).2.2.2
              have hq := HKE.out ((wr.alloc (.cells #[.int .i64 0, .int .i64 0, .int .i64 0, .int .i64 0, .int .i64 0] 79)).drew) ((Below.refl wr.heap.size wr).alloc (Nat.le_refl _) _).drew
              have q0 := hq.1
              have q1 := hq.2.1
              have q2 := hq.2.2.1
              have q3 := hq.2.2.2
              clear hq HSee
              go_wp2
              go_region_held3 (fun w' => w'.cell? ⟨w.heap.size, 0, none⟩ = some (.int .i64 size) ∧ w'.cell? ⟨w.heap.size, 1, none⟩ = some (.slice ao n cap) ∧ w'.cell? ⟨w.heap.size, 2, none⟩ = some (.int .i64 st) ∧ w'.cell? ⟨lb, lo + k, none⟩ = some (.int .i64 a)) (((try dsimp only); first
                | with_reducible exact ⟨c0, c1, c2, c3⟩ | with_reducible exact ⟨d0, d1, d2, d3⟩ | with_reducible exact ⟨q0, q1, q2, q3⟩ | with_reducible exact ⟨x0, x1, x2, x3⟩ | with_reducible exact ⟨v0, v1, v2, v3⟩ | with_reducible exact ⟨s0, s1, s2, s3⟩ | with_reducible exact ⟨p0, p1, p2, p3⟩))
                ((go_at_call 38; first
                | (refine HCA.out.mono ?_; rintro e w5 ⟨rfl, b5⟩
                   have hb := (Below.refl wr.heap.size wr).drew.trans (b5.mono (Nat.le_refl wr.heap.size))
                   have hx := HKE.out w5 hb
                   have x0 := hx.1
                   have x1 := hx.2.1
                   have x2 := hx.2.2.1
                   have x3 := hx.2.2.2
                   have hv := HKE.out (w5.alloc (.cells #[.int .i64 0, .int .i64 0, .int .i64 0, .int .i64 0, .int .i64 0] 79)) (hb.alloc hb.size _)
                   have v0 := hv.1
                   have v1 := hv.2.1
                   have v2 := hv.2.2.1
                   have v3 := hv.2.2.2
                   have hs := HKE.out (w5.alloc (.cells #[.int .i64 z0, .int .i64 z1, .int .i64 z2, .int .i64 z3, .int .i64 z4] 79)) (hb.alloc hb.size _)
                   have s0 := hs.1
                   have s1 := hs.2.1
                   have s2 := hs.2.2.1
                   have s3 := hs.2.2.2
                   have HF := Lib.hid (And.intro (B5.new w5 79 z0 z1 z2 z3 z4) (hb.alloc hb.size (.cells #[.int .i64 z0, .int .i64 z1, .int .i64 z2, .int .i64 z3, .int .i64 z4] 79)))
                   clear b5 hx hv hs hb)
                | (refine HCB.out.mono ?_; rintro e w5 ⟨rfl, b5⟩
                   have hb := ((Below.refl wr.heap.size wr).drew.alloc (Nat.le_refl _) (.cells #[.int .i64 0, .int .i64 0, .int .i64 0, .int .i64 0, .int .i64 0] 79)).trans (b5.mono (by simp))
                   have hx := HKE.out w5 hb
                   have x0 := hx.1
                   have x1 := hx.2.1
                   have x2 := hx.2.2.1
                   have x3 := hx.2.2.2
                   have hz := (B5.new wr.drew 79 0 0 0 0 0).keep b5
                   have y0 : w5.cell? ⟨wr.heap.size, 0, none⟩ = _ := hz.c0
                   have y1 : w5.cell? ⟨wr.heap.size, 1, none⟩ = _ := hz.c1
                   have y2 : w5.cell? ⟨wr.heap.size, 2, none⟩ = _ := hz.c2
                   have y3 : w5.cell? ⟨wr.heap.size, 3, none⟩ = _ := hz.c3
                   have y4 : w5.cell? ⟨wr.heap.size, 4, none⟩ = _ := hz.c4
                   have yf : ∀ o, w5.frozen? ⟨wr.heap.size, o, none⟩ = false := hz.f
                   have hs5 := ((((hb.setCell (p := ⟨wr.heap.size, 0, none⟩) (Nat.le_refl _) (.int .i64 z0)).setCell (p := ⟨wr.heap.size, 1, none⟩) (Nat.le_refl _) (.int .i64 z1)).setCell (p := ⟨wr.heap.size, 2, none⟩) (Nat.le_refl _) (.int .i64 z2)).setCell (p := ⟨wr.heap.size, 3, none⟩) (Nat.le_refl _) (.int .i64 z3)).setCell (p := ⟨wr.heap.size, 4, none⟩) (Nat.le_refl _) (.int .i64 z4)
                   have hs := HKE.out _ hs5
                   have p0 := hs.1
                   have p1 := hs.2.1
                   have p2 := hs.2.2.1
                   have p3 := hs.2.2.2
                   have HF := Lib.hid (And.intro (hz.set5 z0 z1 z2 z3 z4) hs5)
                   clear b5 hx hs hs5 hz hb)))
              all_goals
                go_wp2
                go_meet
                exact ⟨_, rfl, rfl, HF⟩
            case' rest => skip
            obtain ⟨N, rfl, rfl, HF⟩ := hcut
            have r1 := HF.out.1.c1
            have r0 := HF.out.1.c0
            have HX2 := Lib.hid (HX.out.keep HF.out.2)
            have HB2 := Lib.hid (HB.out.trans (HF.out.2.mono HB.out.size))
            have HBC := Lib.hid (HBe.out.trans (HF.out.2.mono HBe.out.size))
            have e3 := (HKE.out wc HF.out.2).2.2.2
            have C := refPlace wc la ps.length lc (ints ps) (HLL.out.keep HBC.out) (by have := HPL.out; omega) a
            have hgo : goneB zs ps k = false → goneK zs ps (k + 1) = false := fun h => by rw [HGN.out, HG.out, h]; rfl
            have HGO := Lib.hid hgo
            clear c0 c1 c2 c3 HKE HSee HX HB HBe HF hgo
            by_cases h1 : z1 = 1
            · by_cases h0 : z0 = -1
              · have HE := Lib.hid (HGO.out (by rw [HGB.out, h0]; simp))
                subst h0 h1
                clear C
                go_wp2
                go_roundw
                case rel => exact ⟨k + 1, HLT.out, by go_num, HX2.out, HB2.out, HBC.out, HE.out⟩
                case measure => have := HLT.out; simp [intOf]; omega
              · have H0 := Lib.hid h0
                have h0 : (z0 != -1) = true := by simpa using h0
                subst h1
                go_wp2_with fail
                refine C.mono ?_
                clear C e3 r1 r0
                rintro e w5 ⟨i, rfl, hi0, hi1, hi2, b5⟩
                by_cases hm : 3 + 5 * k ∈ ps
                · have i1 := hi1 (HMem.out.2 hm)
                  have HE := Lib.hid (HGO.out (by rw [HGB.out]; simp [hm]))
                  have HX5 := Lib.hid (HX2.out.keep b5)
                  have HB5 := Lib.hid (HB2.out.trans (b5.mono HB2.out.size))
                  have HC5 := Lib.hid (HBC.out.trans (b5.mono HBC.out.size))
                  clear hi0 hi1 hi2 b5 hm
                  go_wp2
                  go_roundw
                  case rel => exact ⟨k + 1, HLT.out, by go_num, HX5.out, HB5.out, HC5.out, HE.out⟩
                  case measure => have := HLT.out; simp [intOf]; omega
                · obtain rfl := hi2 (fun h => hm (HMem.out.1 h))
                  have HE := Lib.hid (HGY.out (by rw [HGB.out]; simp [hm, H0.out]) HLT.out)
                  have HB5 := Lib.hid (HB2.out.trans (b5.mono HB2.out.size))
                  clear hi0 hi1 hi2 b5 hm
                  go_wp2
                  go_ret
                  exact ⟨by rw [HSV.out, HI.out, HE.out]; rfl, HB5.out⟩
            · have HE := Lib.hid (HGO.out (by rw [HGB.out]; simp [h1]))
              have h1 : (z1 == 1) = false := by simpa using h1
              clear C
              go_wp2
              go_roundw
              case rel => exact ⟨k + 1, HLT.out, by go_num, HX2.out, HB2.out, HBC.out, HE.out⟩
              case measure => have := HLT.out; simp [intOf]; omega
          · have hkn : NN = k := by omega
            subst hkn
            clear hlt hk
            go_wp2
            go_ret
            exact ⟨by rw [HSV.out, HI.out, HG.out]; rfl, HB.out⟩
end

end Go.Proofs.Ytfnjbbokbdddpaa.M2
namespace Go.Proofs.Ytfnjbbokbdddpaa.M2
open Go.RowKit

section
variable {w : World} {B : Nat} {u : Value} {size : Int} {zs : List Int} {st : Int} {ps : List Nat} {lost : Bool}

end

end Go.Proofs.Ytfnjbbokbdddpaa.M2
namespace Go.Proofs.Ytfnjbbokbdddpaa.M2
open Go.RowKit

theorem setN_all (zs : List Int) : setN (List.replicate zs.length 0) 0 zs zs.length = zs := by
  apply List.ext_getElem
  · rw [setN_length, List.length_replicate]
  · intro i h1 h2
    have := setN_at (List.replicate zs.length 0) 0 zs zs.length i h2 (by simp)
    rw [Nat.zero_add] at this
    simpa [List.getD, h1, h2] using this

theorem cellKept {w : World} {a : Addr} {u : Value} (h : w.cell? a = some u) (o : Obj) : (w.alloc o).cell? a = some u := by
  have hl := World.block_lt_of_cell? w _ h
  rw [← h]
  exact World.cell?_of_block (Below.heap_alloc _ _ _ hl)

structure BM (w : World) (rb p : Nat) (v u : Value) (size : Int) (zs : List Int) (st : Int) (ys : List Int) (sd : Int) (wr : World) : Prop where
  m : Mem wr w.heap.size p v size zs st
  o : wr.ownsRow w.heap.size 2 1 u ys.length (ys.map (Value.int .i64))
  n : ∀ g, u.ownBlock = some g → v.ownBlock ≠ some g
  r : Boxed wr rb (.int .i64 size) u (.int .i64 sd)
  t : Boxed wr w.heap.size (.int .i64 0) (.slice none 0 0) (.int .i64 0)
  l : w.heap.size < rb
  b : Below w.heap.size w wr

section
variable {w : World} {rb p : Nat} {v u : Value} {size : Int} {zs ys : List Int} {st sd : Int}

theorem BM.fresh {a b : World} (h : BM w rb p v u size zs st ys sd a) (hb : Below a.heap.size a b) : BM w rb p v u size zs st ys sd b :=
  ⟨h.m.fresh hb, own_keep h.o hb, h.n, h.r.keep hb, h.t.keep hb, h.l, h.b.trans (hb.mono h.b.size)⟩

theorem BM.did {a w' : World} {zs' : List Int} {st' : Int} (h : BM w rb p v u size zs st ys sd a) (d : Did w.heap.size p v size zs' st' a w') : ∃ v', BM w rb p v' u size zs' st' ys sd w' := by
  obtain ⟨v', m', wr, lt⟩ := d
  have bx : ∀ {N : Nat} {x y z : Value}, Boxed a N x y z → Boxed w' N x y z := fun {N x y z} hx => by
    refine (wr.block N hx.lt ?_ (own_ne_boxed h.m.own hx)).trans hx
    rintro rfl
    have e1 := h.m.block
    unfold Boxed at hx
    rw [hx] at e1
    simp at e1
  refine ⟨v', m', ⟨h.o.1, ?_⟩, ?_, bx h.r, bx h.t, h.l, h.b.trans (wr.below h.b.size h.m.low (fun g hg => (h.m.rowLt hg).1))⟩
  · rcases h.o.2 with hn | ⟨g, cap, cur, rfl, hb, hg, r⟩
    · exact .inl hn
    · refine .inr ⟨g, cap, cur, rfl, hb, (wr.block g (lt_of_block hg) ?_ (h.n g rfl)).trans hg, r⟩
      rintro rfl
      have e1 := h.m.block
      rw [hg] at e1
      simp at e1
  · intro g hg e
    rcases lt g e with h1 | h1
    · exact h.n g hg h1
    · have := (h.o.lt g hg).2
      omega

theorem BM.store {a : World} (h : BM w rb p v u size zs st ys sd a) (x y : Int) (h0 : 0 ≤ x) (h1 : x < zs.length) (k0 : 0 ≤ st) (k1 : st < 1000000) :
    Calls Try.prog 36 #[.pointer (some ⟨p, 0, none⟩), .int .i64 x, .int .i64 y] a fun e w' => e = .returned (.int .u16 0) ∧ ∃ v', BM w rb p v' u size (zs.set x.toNat y) (st + 1) ys sd w' :=
  (storeIn h.m x y h0 h1 k0 k1).mono fun _ _ ⟨he, d⟩ => ⟨he, h.did d⟩

theorem BM.alloc {a : World} (h : BM w rb p v u size zs st ys sd a) (m : Nat) (hm : (m : Int) ≤ size - zs.length) (k0 : 0 ≤ st) (k1 : st < 1000000) :
    Calls Try.prog 35 #[.pointer (some ⟨p, 0, none⟩), .int .i64 (m : Int)] a fun e w' => e = .returned (.tuple #[.int .i64 (zs.length : Int), .int .u16 0]) ∧ ∃ v', BM w rb p v' u size (zs ++ List.replicate m 0) (st + 1) ys sd w' :=
  (allocOk h.m m hm k0 k1).mono fun _ _ ⟨he, d⟩ => ⟨he, h.did d⟩

structure AF (w : World) (rb p nb : Nat) (v u u2 : Value) (size : Int) (zs : List Int) (st : Int) (ys ys2 : List Int) (sd : Int) (wr : World) : Prop where
  h : BM w rb p v u size zs st ys sd wr
  o2 : wr.ownsRow w.heap.size 2 1 u2 ys2.length (ys2.map (Value.int .i64))
  n2 : ∀ g, u2.ownBlock = some g → v.ownBlock ≠ some g
  r2 : Boxed wr nb (.int .i64 size) u2 (.int .i64 (sd + 1))
  l2 : nb ≠ rb

theorem AF.a {a b : World} (h : BM w rb p v u size zs st ys sd a) {ys2 : List Int} {u2 : Value} (hl : Left a w.heap.size u ys2 u2 b) :
    AF w rb p b.heap.size v u u2 size zs st ys ys2 sd (b.alloc (.cells #[.int .i64 size, u2, .int .i64 (sd + 1)] 39)) := by
  obtain ⟨o2, lt, bl⟩ := hl
  have hb := bl.alloc bl.size (.cells #[.int .i64 size, u2, .int .i64 (sd + 1)] 39)
  refine ⟨h.fresh hb, o2.alloc _, ?_, Boxed.new _ _ _ _, ?_⟩
  · intro g hg e
    rcases lt g hg with h1 | h1
    · exact h.n g h1 e
    · have := (h.m.rowLt e).2
      omega
  · have := h.r.lt
    have := bl.size
    omega

theorem AF.b {a c b : World} (h : BM w rb p v u size zs st ys sd a) (hc : a.alloc (.cells #[.int .i64 0, .slice none 0 0, .int .i64 0] 39) = c) {ys2 : List Int} {u2 : Value} (hl : Left c w.heap.size u ys2 u2 b) :
    AF w rb p a.heap.size v u u2 size zs st ys ys2 sd (((b.setCell ⟨a.heap.size, 0, none⟩ (.int .i64 size)).setCell ⟨a.heap.size, 1, none⟩ u2).setCell ⟨a.heap.size, 2, none⟩ (.int .i64 (sd + 1))) := by
  subst hc
  obtain ⟨o2, lt, bl⟩ := hl
  have hz : Boxed b a.heap.size (.int .i64 0) (.slice none 0 0) (.int .i64 0) := (Boxed.new a _ _ _).keep bl
  have ne := own_ne_boxed o2 hz
  have hab : Below a.heap.size a b := ((Below.refl a.heap.size a).alloc (Nat.le_refl _) (.cells #[.int .i64 0, .slice none 0 0, .int .i64 0] 39)).trans (bl.mono (by simp))
  have hs : a.heap.size < (a.alloc (.cells #[.int .i64 0, .slice none 0 0, .int .i64 0] 39)).heap.size := by simp
  refine ⟨h.fresh (((hab.setCell (Nat.le_refl _) _).setCell (Nat.le_refl _) _).setCell (Nat.le_refl _) _), ownsRow_setCell_other (ownsRow_setCell_other (ownsRow_setCell_other o2 ne _) ne _) ne _, ?_, ((hz.set0 _).set1 _).set2 _, ?_⟩
  · intro g hg e
    rcases lt g hg with h1 | h1
    · exact h.n g h1 e
    · have := (h.m.rowLt e).2
      omega
  · have := h.r.lt
    omega

theorem AF.turn {nb : Nat} {u2 : Value} {ys2 : List Int} {a : World} (h : AF w rb p nb v u u2 size zs st ys ys2 sd a) :
    BM w rb p v u2 size zs st ys2 (sd + 1) (((a.setCell ⟨rb, 0, none⟩ (.int .i64 size)).setCell ⟨rb, 1, none⟩ u2).setCell ⟨rb, 2, none⟩ (.int .i64 (sd + 1))) := by
  obtain ⟨⟨m, o, n, r, t, l, b⟩, o2, n2, r2, l2⟩ := h
  have hp : rb ≠ p := by
    rintro rfl
    have e1 := m.block
    unfold Boxed at r
    rw [r] at e1
    simp at e1
  have hv := own_ne_boxed m.own r
  have hu := own_ne_boxed o2 r
  refine ⟨((m.setOther (q := ⟨rb, 0, none⟩) hp hv _).setOther (q := ⟨rb, 1, none⟩) hp hv _).setOther (q := ⟨rb, 2, none⟩) hp hv _, ownsRow_setCell_other (ownsRow_setCell_other (ownsRow_setCell_other o2 hu _) hu _) hu _, n2, ((r.set0 _).set1 _).set2 _, ?_, l, ((b.setCell (by simp; omega) _).setCell (by simp; omega) _).setCell (by simp; omega) _⟩
  have e : rb ≠ w.heap.size := by omega
  exact ((t.other (q := ⟨rb, 0, none⟩) e _).other (q := ⟨rb, 1, none⟩) e _).other (q := ⟨rb, 2, none⟩) e _
end

end Go.Proofs.Ytfnjbbokbdddpaa.M2
namespace Go.Proofs.Ytfnjbbokbdddpaa.M2
open Go.RowKit

def MemoRel (w : World) (rb p : Nat) (zs : List Int) (iv : Value) (wr : World) : Prop :=
  ∃ (k : Nat) (v u : Value), k ≤ zs.length ∧ iv = .int .i64 k ∧ BM w rb p v u zs.length (setN (List.replicate zs.length 0) 0 zs k) (1 + k) (setN (List.replicate zs.length 0) 0 zs k) (1 + k) wr

theorem sizeOf'_self (n : Nat) (h : n ≤ 200) : sizeOf' (n : Int) = (n : Int) := by unfold sizeOf'; rw [if_neg (by omega), if_neg (by omega)]

theorem other3 {w : World} {N M j : Nat} (h : M ≠ N) {v : Value} (x : w.cell? ⟨M, j, none⟩ = some v) (a b c : Value) : (((w.setCell ⟨N, 0, none⟩ a).setCell ⟨N, 1, none⟩ b).setCell ⟨N, 2, none⟩ c).cell? ⟨M, j, none⟩ = some v :=
  cellOther _ h (cellOther _ h (cellOther _ h x))

theorem other3d {w : World} {N M j : Nat} (h : M ≠ N) {v : Value} (x : w.cell? ⟨M, j, none⟩ = some v) (a b c : Value) : ((((w.setCell ⟨N, 0, none⟩ a).setCell ⟨N, 1, none⟩ b).setCell ⟨N, 2, none⟩ c).drew).cell? ⟨M, j, none⟩ = some v :=
  other3 h x a b c

end Go.Proofs.Ytfnjbbokbdddpaa.M2
namespace Go.Proofs.Ytfnjbbokbdddpaa.M2
open Go.RowKit

set_option maxHeartbeats 1600000 in
theorem intsEq (w : World) (a b : Option Addr) (n c d : Nat) (zs : List Int) (ha : Reads .i64 w a n zs) (hb : Reads .i64 w b n zs) (hl : n ≤ 1000) :
    Calls Try.prog 21 #[.slice a n c, .slice b n d] w fun e w' => e = .returned (.bool true) ∧ Below w.heap.size w w' := by
  have HA := Lib.hid ha
  have HB := Lib.hid hb
  clear ha hb
  go_enter Try.func21, Try.ntmps21
  go_wp2
  go_loopw [5] (fun i wr => ∃ k : Nat, k ≤ n ∧ i = .int .i64 k ∧ Below w.heap.size w wr) (fun i _ => n - (intOf i).toNat)
  case atStart => exact ⟨0, Nat.zero_le _, rfl, Below.refl _ _⟩
  case round =>
    obtain ⟨k, hk, rfl, hbe⟩ := hrel
    have HE := Lib.hid hbe
    by_cases hlt : k < n
    · obtain ⟨b1, o1, rfl, l1, h1⟩ := (HA.out.keep hbe).2 (by omega)
      obtain ⟨b2, o2, rfl, l2, h2⟩ := (HB.out.keep hbe).2 (by omega)
      have c1 := h1 k hlt
      have c2 := h2 k hlt
      have i0 : (k : Int) < n := by omega
      clear h1 h2 hbe
      generalize zs.getD k 0 = e1 at *
      go_wp2
      go_quiet (fail)
      go_wp2
      go_roundw
      case rel => exact ⟨k + 1, by omega, by go_num, below_drewN HE.out _⟩
      case measure => simp [intOf]; omega
    · clear hbe
      go_wp2
      go_ret
      exact ⟨rfl, HE.out⟩

end Go.Proofs.Ytfnjbbokbdddpaa.M2
namespace Go.Proofs.Ytfnjbbokbdddpaa.M2
open Go.RowKit

end Go.Proofs.Ytfnjbbokbdddpaa.M2
namespace Go.Proofs.Ytfnjbbokbdddpaa.M2
open Go.RowKit

end Go.Proofs.Ytfnjbbokbdddpaa.M2
namespace Go.Proofs.Ytfnjbbokbdddpaa.M2
open Go.RowKit

end Go.Proofs.Ytfnjbbokbdddpaa.M2
