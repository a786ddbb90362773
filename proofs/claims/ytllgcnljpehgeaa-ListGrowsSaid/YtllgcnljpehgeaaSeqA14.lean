/-
  What along of package list goes through, as a range's function. Conditions: a memory as Mem1 says. What all of package list goes through, as a range's function. Conditions: a memory as Mem1 says. A list of numbers in a variable that a range's round appends to. Conditions: at most a thousand numbers.
-/
import Derived.Test.YtllgcnljpehgeaaLstA14
namespace Go.Proofs.Ytllgcnljpehgeaa.M2
open Go.RowKit Go.Shelf

attribute [local go_sem] Oper.semAt_some

theorem B5.wrote {w w' : World} {N : Nat} {t : TypeId} {a b c d e : Int} {F : Nat → Prop} (h : B5 w N t a b c d e) (hw : _root_.Go.Proofs.Ytllgcnljpehgeaa.Wrote F w w') (hn : ¬ F N) : B5 w' N t a b c d e := (hw.block N h.lt hn).trans h
theorem B5.still {w w' : World} {N s : Nat} {t : TypeId} {a b c d e : Int} (h : B5 w N t a b c d e) (hw : Still s w w') (hn : s ≤ N) : B5 w' N t a b c d e := (hw.2 N hn h.lt).trans h
theorem WalkAt.wrote {W W' : World} {wb p mb : Nat} {lost : Bool} {F : Nat → Prop} (h : WalkAt W wb p mb lost) (hw : _root_.Go.Proofs.Ytllgcnljpehgeaa.Wrote F W W') (hn : ¬ F wb) : WalkAt W' wb p mb lost := (hw.block wb h.lt hn).trans h

/-- A walk on its way: the memory is as it was at w. -/
def WI (w : World) (p wb mb : Nat) (lost : Bool) (ms : List Nat) (W : World) : Prop := Below w.heap.size w W ∧ WalkAt W wb p mb lost ∧ MapIs W mb (metE ms)

/-- How many were met. -/
def metN (W : World) (mb : Nat) : Nat := match W.heap[mb]? with
  | some (.map es _) => es.size
  | _ => 0
theorem metN_eq {W : World} {mb : Nat} {ms : List Nat} (h : MapIs W mb (metE ms)) : metN W mb = ms.length := by
  unfold MapIs at h
  unfold metN
  rw [h]
  exact metE_size ms

theorem WI.fresh {w W V : World} {p wb mb : Nat} {l : Bool} {ms : List Nat} (h : WI w p wb mb l ms W) (hb : Below W.heap.size W V) : WI w p wb mb l ms V :=
  ⟨h.1.trans (hb.mono h.1.size), h.2.1.keep hb, h.2.2.keep hb⟩

theorem WI.put {w V W3 : World} {p wb mb a : Nat} {l : Bool} {ms : List Nat} {v : Int} (h : WI w p wb mb l ms V) (h2 : w.heap.size ≤ mb) (hne : wb ≠ mb) (hv : v = (a : Int))
    (hm : MapIs W3 mb ((metE ms).push { key := .int .i64 v, val := .bool true, born := (metE ms).size })) (hw : _root_.Go.Proofs.Ytllgcnljpehgeaa.Wrote (fun q => q = mb) V W3) : WI w p wb mb l (ms ++ [a]) W3 := by
  subst hv
  exact ⟨h.1.trans (hw.below h.1.size (fun g hg => by omega)), h.2.1.wrote hw hne, by rw [metE_push]; exact hm⟩
theorem WI.lose {w V : World} {p wb mb : Nat} {l : Bool} {ms : List Nat} (h : WI w p wb mb l ms V) (h1 : w.heap.size ≤ wb) (hne : wb ≠ mb) (b : Bool) : WI w p wb mb b ms (V.setCell ⟨wb, 2, none⟩ (.bool b)) :=
  ⟨h.1.setCell h1 _, h.2.1.set b, (Below.heap_setCell _ _ _ _ (fun e => hne e.symm)).trans h.2.2⟩

/-- The blocks that along writes to. -/
def WF (wb mb : Nat) : Nat → Prop := fun b => b = wb ∨ b = mb

/-- What holds ahead of the thing number k. -/
def WR (J : Nat → World → Prop) (w : World) (p wb mb : Nat) (ps : List Nat) (k : Nat) (wr : World) : Prop := ∃ A, J k A ∧ _root_.Go.Proofs.Ytllgcnljpehgeaa.Wrote (WF wb mb) A wr ∧ WI w p wb mb false (ps.take k) wr

theorem take_next {ps : List Nat} {k : Nat} (h : k < ps.length) : ps.take (k + 1) = ps.take k ++ [ps.getD k 0] := by
  rw [List.take_succ_eq_append_getElem h]; simp [List.getD, h]

section
variable {w : World} {B p wb mb : Nat} {size st : Int} {zs : List Int} {ps : List Nat} {lost : Bool}

set_option maxRecDepth 100000 in
set_option maxHeartbeats 4000000 in
theorem alongSeq (n : Nat) (h : Mem1 w B p size zs st) (hP : Path zs ps lost) (h1 : w.heap.size ≤ wb) (h2 : w.heap.size ≤ mb) (hne : wb ≠ mb) :
    SeqG Fence.wide n Try.prog 40 #[.pointer (some ⟨wb, 0, none⟩)] #[] (encA zs ps) ps.length (WF wb mb) (fun k => WI w p wb mb false (ps.take k)) (fun k => WI w p wb mb false (ps.take (k + 1))) (WI w p wb mb lost ps) := by
  intro l J Jb Jx Je W hJI hJb hJe hY h0
  have HJI := Lib.hid hJI
  have HJB := Lib.hid hJb
  have HJE := Lib.hid hJe
  have HY := Lib.hid hY
  have HM := Lib.hid (fun (V : World) (hb : Below w.heap.size w V) => h.keep hb)
  have HP := Lib.hid hP
  have HW1 := Lib.hid h1
  have HW2 := Lib.hid h2
  have HNE := Lib.hid hne
  have i0 := hJI 0 W h0
  have c0 := i0.2.1.c0
  have C : Calls Try.prog 44 #[.pointer (some ⟨p, 0, none⟩), .int .i64 1] W fun e w' => e = .returned (.int .i64 (zs.getD 1 0)) ∧ Below W.heap.size W w' := cellAny (HM.out W i0.1) 1 (by omega)
  have HI0 := Lib.hid i0
  have H0 := Lib.hid h0
  clear hJI hJb hJe hY h hP h1 h2 hne i0 h0
  rw [show (#[.pointer (some ⟨wb, 0, none⟩)] ++ #[.func (.yield l) #[] #[]] ++ #[] : Array Value) = #[.pointer (some ⟨wb, 0, none⟩), .func (.yield l) #[] #[]] from rfl]
  refine callsIn_of_wp Try.func40 rfl trivial ?_ rfl
  simp only [Try.ntmps40, List.size_toArray, List.length_cons, List.length_nil, Nat.reduceAdd, Nat.reduceSub, Array.replicate_succ, Array.replicate_zero, List.push_toArray, List.append_toArray, List.nil_append, List.cons_append]
  gi_wp2_with fail
  refine ⟨trivial, ?_⟩
  refine ⟨(fun h => by simp [Fence.wide] at h), ?_⟩
  refine (callsIn_wide.2 C).mono ?_
  clear C
  rintro e w1 ⟨rfl, b1⟩
  have HR0 := Lib.hid (show WR J w p wb mb ps 0 w1 from ⟨W, H0.out, _root_.Go.Proofs.Ytllgcnljpehgeaa.Wrote.of b1 _, HI0.out.fresh b1⟩)
  have hv : zs.getD 1 0 = vAt zs ps 0 := rfl
  rw [hv]
  clear b1 c0 hv H0 HI0
  gi_wp2
  gi_loopw [4] (fun v wr => ∃ k : Nat, k ≤ ps.length ∧ v = .int .i64 (vAt zs ps k) ∧ WR J w p wb mb ps k wr) (fun _ wr => ps.length + 1 - metN wr mb)
  case atStart => exact ⟨0, Nat.zero_le _, rfl, HR0.out⟩
  case round =>
    obtain ⟨k, hk, rfl, A, hJ, hw, hI⟩ := hrel
    clear HR0
    by_cases hlt : k < ps.length
    · obtain ⟨j, hj, e2⟩ := HP.out.isr k hlt
      have e1 := HP.out.step k hlt
      have hnew := HP.out.new k hlt
      obtain ⟨a, ha⟩ : ∃ a : Int, 3 + 5 * (j : Int) = a := ⟨_, rfl⟩
      have ev : vAt zs ps k = a := by rw [e1, e2]; omega
      have C := seeRec (HM.out wr hI.1) j hj
      rw [ha] at C
      have HF := Lib.hid (met_none (ps := ps.take k) (v := a) (by intro b hb e; apply hnew; have : ps.getD k 0 = b := by omega
                                                                  rw [this]; exact hb))
      have hE : encA zs ps k = #[.int .i64 a, recV zs (3 + 5 * j)] := by unfold encA; rw [e2, ← ha]; rfl
      have nxt : zs.getD (3 + 5 * j + 3) 0 = vAt zs ps (k + 1) := by unfold vAt; rw [if_neg (by omega), Nat.add_sub_cancel, e2]
      rw [ev]
      have HT := Lib.hid (take_next hlt)
      have HA3 := Lib.hid (show a = ((ps.getD k 0 : Nat) : Int) by rw [e2]; omega)
      have a3 : 3 ≤ a := by omega
      have a0 : (a != 0) = true := by simp; omega
      simp only [recV] at C hE
      generalize zs.getD (3 + 5 * j) 0 = z0 at *
      generalize zs.getD (3 + 5 * j + 1) 0 = z1 at *
      generalize zs.getD (3 + 5 * j + 2) 0 = z2 at *
      generalize zs.getD (3 + 5 * j + 3) 0 = z3 at *
      generalize zs.getD (3 + 5 * j + 4) 0 = z4 at *
      have HE := Lib.hid hE
      have HX := Lib.hid nxt
      have HJ := Lib.hid hJ
      have HW := Lib.hid hw
      have HI := Lib.hid hI
      have HLT := Lib.hid hlt
      have HMN := Lib.hid (metN_eq hI.2.2)
      have c0 := hI.2.1.c0
      clear e1 e2 ev hnew hE nxt hJ hw hI hj ha hlt
      gi_wp2_with fail
      refine ⟨trivial, ?_⟩
      refine ⟨(fun h => by simp [Fence.wide] at h), ?_⟩
      refine (callsIn_wide.2 C).mono ?_
      clear C
      rintro e w1 ⟨rfl, b1⟩
      have HI1 := Lib.hid (HI.out.fresh b1)
      have HW1' := Lib.hid (HW.out.trans (_root_.Go.Proofs.Ytllgcnljpehgeaa.Wrote.of b1 _))
      have HSz := Lib.hid (Nat.le_trans HW.out.size b1.size)
      have d1 := HI1.out.2.1.c1
      have dl := HI1.out.2.1.lt
      clear b1 c0 HI HW
      have HV := Lib.hid (HI1.out.fresh ((Below.refl _ _).alloc (Nat.le_refl _) (.cells #[.int .i64 z0, .int .i64 z1, .int .i64 z2, .int .i64 z3, .int .i64 z4] 76)))
      have hlk : (Instr.lookup 72 (.map (some mb)) (.int .i64 a) false).run Try.prog (w1.alloc (.cells #[.int .i64 z0, .int .i64 z1, .int .i64 z2, .int .i64 z3, .int .i64 z4] 76)) = .ok (.bool false) (w1.alloc (.cells #[.int .i64 z0, .int .i64 z1, .int .i64 z2, .int .i64 z3, .int .i64 z4] 76)) :=
        run_lookOut _ _ 3 4 mb (metE (ps.take k)) a false (.bool false) Try.underlying72 Try.underlying3 HV.out.2.2 (zeroBool _) HF.out
      obtain ⟨W3, hput, hm3, hw3⟩ := put_run (P := Try.prog) _ 72 3 4 mb (metE (ps.take k)) a (.bool true) Try.underlying72 Try.underlying3 HV.out.2.2 HF.out
      have HI3 := Lib.hid (HV.out.put HW2.out HNE.out HA3.out hm3 hw3)
      have HB3 := Lib.hid ((B5.new w1 76 z0 z1 z2 z3 z4).wrote hw3 (fun e => by have := HI1.out.2.2.lt; omega))
      have HW3 := Lib.hid ((HW1'.out.trans (_root_.Go.Proofs.Ytllgcnljpehgeaa.Wrote.of ((Below.refl _ _).alloc (Nat.le_refl _) _) _)).trans (⟨hw3.os, hw3.tape, hw3.output, hw3.size, fun q h1 h2 => hw3.block q h1 (fun e => h2 (.inr e))⟩ : _root_.Go.Proofs.Ytllgcnljpehgeaa.Wrote (WF wb mb) _ _))
      have hJ3 := HJB.out k A W3 HJ.out HLT.out HW3.out (by show WI w p wb mb false (ps.take (k + 1)) W3; rw [HT.out]; exact HI3.out)
      obtain ⟨fn, tmps, assign, body, hy, hR⟩ := HY.out k _ W3 hJ3 HLT.out
      rw [HE.out] at hy
      have HR := Lib.hid hR
      have r0 := HB3.out.c0
      have r1 := HB3.out.c1
      have r2 := HB3.out.c2
      have r3 := HB3.out.c3
      have r4 := HB3.out.c4
      clear hm3 hw3 hJ3 hR
      gi_wp2_with fail
      refine ⟨(fun h => by simp [Fence.wide] at h), HR.out.mono ?_⟩
      rintro e3 W4 (⟨rfl, hJ4, hst⟩ | ⟨rfl, hX⟩)
      · have HJ4 := Lib.hid hJ4
        have q3 := (HB3.out.still hst HSz.out).c3
        clear hJ4 hst r0 r1 r2 r3 r4 hy
        gi_wp2
        go_roundw
        case rel => exact ⟨k + 1, HLT.out, by rw [HX.out], W4, HJ4.out, _root_.Go.Proofs.Ytllgcnljpehgeaa.Wrote.refl _ _, HJI.out _ _ HJ4.out⟩
        case measure =>
          have m4 := metN_eq (HJI.out _ _ HJ4.out).2.2
          rw [m4, HMN.out, List.length_take, List.length_take]
          have := HLT.out
          omega
      · have HXX := Lib.hid hX
        clear hX r0 r1 r2 r3 r4 hy
        gi_wp2
        refine bodyPost_ret (results_none rfl _ _ _) rfl ?_
        exact ⟨⟨_, rfl⟩, .inr ⟨k, HLT.out, HXX.out⟩⟩
    · obtain rfl : k = ps.length := by omega
      cases lost with
      | false =>
        have ev := HP.out.fin rfl
        rw [ev]
        have HD := Lib.hid (HJE.out A wr hJ hw (by have := hI; rwa [List.take_length] at this))
        clear hJ hw hI ev hk hlt
        gi_wp2
        go_end0
        exact ⟨⟨_, rfl⟩, .inl HD.out⟩
      | true =>
        obtain ⟨hv0, hbad⟩ := HP.out.bad rfl
        have hbig := HP.out.big
        have HW := Lib.hid hw
        have HI := Lib.hid (show WI w p wb mb false ps wr by have := hI; rwa [List.take_length] at this)
        have HJ := Lib.hid hJ
        have c0 := hI.2.1.c0
        have c2 := hI.2.1.c2
        have cf := hI.2.1.f
        obtain ⟨a, ha⟩ : ∃ a, vAt zs ps ps.length = a := ⟨_, rfl⟩
        rw [ha] at hv0 hbad hbig ⊢
        have a0 : (a != 0) = true := by simpa using hv0
        clear hJ hw hI hk hlt ha hv0
        rcases hbad with hno | ⟨j, hj, hm, e⟩
        · have C := seeNo (HM.out wr HI.out.1) a hno hbig
          clear hno hbig
          gi_wp2_with fail
          refine ⟨trivial, ?_⟩
          refine ⟨(fun h => by simp [Fence.wide] at h), ?_⟩
          refine (callsIn_wide.2 C).mono ?_
          clear C
          rintro e w1 ⟨rfl, b1⟩
          have HI1 := Lib.hid (HI.out.fresh b1)
          have HW1' := Lib.hid (HW.out.trans (_root_.Go.Proofs.Ytllgcnljpehgeaa.Wrote.of b1 _))
          have d0 := HI1.out.2.1.c0
          have d2 := HI1.out.2.1.c2
          have df := HI1.out.2.1.f
          have dl := HI1.out.2.1.lt
          clear b1 c0 c2 cf HI HW
          gi_wp2
          refine bodyPost_ret (results_none rfl _ _ _) rfl ?_
          exact ⟨⟨_, rfl⟩, .inl (HJE.out A _ HJ.out ((HW1'.out.setCell (q := ⟨wb, 2, none⟩) (.inr (.inl rfl)) (.bool true)).alloc _) ((HI1.out.lose HW1.out HNE.out true).fresh ((Below.refl _ _).alloc (Nat.le_refl _) _)))⟩
        · have C := seeRec (HM.out wr HI.out.1) j hj
          rw [← e] at C
          simp only [recV] at C
          have HF := Lib.hid (met_some (ps := ps) (v := a) ⟨_, hm, by omega⟩)
          generalize zs.getD (3 + 5 * j) 0 = z0 at *
          generalize zs.getD (3 + 5 * j + 1) 0 = z1 at *
          generalize zs.getD (3 + 5 * j + 2) 0 = z2 at *
          generalize zs.getD (3 + 5 * j + 3) 0 = z3 at *
          generalize zs.getD (3 + 5 * j + 4) 0 = z4 at *
          clear hj hm e hbig
          gi_wp2_with fail
          refine ⟨trivial, ?_⟩
          refine ⟨(fun h => by simp [Fence.wide] at h), ?_⟩
          refine (callsIn_wide.2 C).mono ?_
          clear C
          rintro e w1 ⟨rfl, b1⟩
          have HI1 := Lib.hid (HI.out.fresh b1)
          have HW1' := Lib.hid (HW.out.trans (_root_.Go.Proofs.Ytllgcnljpehgeaa.Wrote.of b1 _))
          have d0 := HI1.out.2.1.c0
          have d1 := HI1.out.2.1.c1
          have d2 := HI1.out.2.1.c2
          have df := HI1.out.2.1.f
          have dl := HI1.out.2.1.lt
          clear b1 c0 c2 cf HI HW
          have b3 := Lib.hid (show Below w1.heap.size w1 (w1.alloc (.cells #[.int .i64 z0, .int .i64 z1, .int .i64 z2, .int .i64 z3, .int .i64 z4] 76)) from (Below.refl _ _).alloc (Nat.le_refl _) _)
          have HV := Lib.hid (HI1.out.fresh b3.out)
          obtain ⟨i, hi⟩ := HF.out
          have hlk : (Instr.lookup 72 (.map (some mb)) (.int .i64 a) false).run Try.prog (w1.alloc (.cells #[.int .i64 z0, .int .i64 z1, .int .i64 z2, .int .i64 z3, .int .i64 z4] 76)) = .ok (.bool true) (w1.alloc (.cells #[.int .i64 z0, .int .i64 z1, .int .i64 z2, .int .i64 z3, .int .i64 z4] 76)) :=
            run_lookIn _ _ 3 4 mb (metE ps) a false i (.bool true) Try.underlying72 Try.underlying3 HV.out.2.2 hi
          clear hi
          gi_wp2
          refine bodyPost_ret (results_none rfl _ _ _) rfl ?_
          exact ⟨⟨_, rfl⟩, .inl (HJE.out A _ HJ.out ((HW1'.out.setCell (q := ⟨wb, 2, none⟩) (.inr (.inl rfl)) (.bool true)).alloc _) ((HI1.out.lose HW1.out HNE.out true).fresh ((Below.refl _ _).alloc (Nat.le_refl _) _)))⟩

end

end Go.Proofs.Ytllgcnljpehgeaa.M2
namespace Go.Proofs.Ytllgcnljpehgeaa.M2
open Go.RowKit Go.Shelf

attribute [local go_sem] Oper.semAt_some

/-- The memory is as it was at w, and its pointer stands in a box. -/
def WA (w : World) (p cb : Nat) (W : World) : Prop := Below w.heap.size w W ∧ W.heap[cb]? = some (.cells #[.pointer (some ⟨p, 0, none⟩)] 31 (0, 0))

theorem WA.fresh {w W V : World} {p cb : Nat} (h : WA w p cb W) (hb : Below W.heap.size W V) : WA w p cb V := ⟨h.1.trans (hb.mono h.1.size), (hb.block cb (lt_of_block h.2)).trans h.2⟩
theorem WA.c {w W : World} {p cb : Nat} (h : WA w p cb W) : W.cell? ⟨cb, 0, none⟩ = some (.pointer (some ⟨p, 0, none⟩)) := by simp [World.cell?, h.2]

def NoF : Nat → Prop := fun _ => False
/-- What holds ahead of the record number k. -/
def AR (J : Nat → World → Prop) (w : World) (p cb : Nat) (k : Nat) (wr : World) : Prop := ∃ A, J k A ∧ _root_.Go.Proofs.Ytllgcnljpehgeaa.Wrote NoF A wr ∧ WA w p cb wr

section
variable {w : World} {B p cb : Nat} {size st : Int} {zs : List Int}

set_option maxRecDepth 100000 in
set_option maxHeartbeats 4000000 in
theorem allSeq (n : Nat) (h : Mem1 w B p size zs st) :
    SeqG Fence.wide n Try.prog 60 #[] #[.pointer (some ⟨cb, 0, none⟩)] (encR zs) (mn zs.length) NoF (fun _ => WA w p cb) (fun _ => WA w p cb) (WA w p cb) := by
  intro l J Jb Jx Je W hJI hJb hJe hY h0
  have hmx : mn zs.length ≤ 200 := by have := h.most; unfold mn; omega
  have HJI := Lib.hid hJI
  have HJB := Lib.hid hJb
  have HJE := Lib.hid hJe
  have HY := Lib.hid hY
  have HM := Lib.hid (fun (V : World) (hb : Below w.heap.size w V) => h.keep hb)
  have i0 := hJI 0 W h0
  have c0 := i0.c
  have C := many1 (HM.out W i0.1)
  have HR0 := Lib.hid (show AR J w p cb 0 W from ⟨W, h0, _root_.Go.Proofs.Ytllgcnljpehgeaa.Wrote.refl _ _, i0⟩)
  clear hJI hJb hJe hY h i0 h0
  obtain ⟨N, hN⟩ : ∃ N, mn zs.length = N := ⟨_, rfl⟩
  rw [hN] at C hmx HJB HJE HY ⊢
  have HN := Lib.hid hN
  clear hN
  rw [show (#[] ++ #[.func (.yield l) #[] #[]] ++ #[.pointer (some ⟨cb, 0, none⟩)] : Array Value) = #[.func (.yield l) #[] #[], .pointer (some ⟨cb, 0, none⟩)] from rfl]
  refine callsIn_of_wp Try.func60 rfl trivial ?_ rfl
  simp only [Try.ntmps60, List.size_toArray, List.length_cons, List.length_nil, Nat.reduceAdd, Nat.reduceSub, Array.replicate_succ, Array.replicate_zero, List.push_toArray, List.append_toArray, List.nil_append, List.cons_append]
  gi_wp2_with fail
  refine ⟨trivial, ?_⟩
  refine ⟨(fun h => by simp [Fence.wide] at h), ?_⟩
  refine (callsIn_wide.2 C).mono ?_
  clear C
  rintro e w1 ⟨rfl, rfl⟩
  gi_wp2
  gi_loopw [9] (fun i wr => ∃ k : Nat, k ≤ N ∧ i = .int .i64 k ∧ AR J w p cb k wr) (fun i _ => N - (intOf i).toNat)
  case atStart => exact ⟨0, Nat.zero_le _, rfl, HR0.out⟩
  case round =>
    obtain ⟨k, hk, rfl, A, hJ, hw, hI⟩ := hrel
    clear HR0 c0
    by_cases hlt : k < N
    · have C1 := baseIn (k := (k : Int)) (by omega) (by omega) wr
      have C2 := seeIn (HM.out wr hI.1) k (by rw [HN.out]; exact hlt)
      have c0 := hI.c
      have HE : Hid (encR zs k = _) := Lib.hid (by unfold encR recV; rfl)
      obtain ⟨a, ha⟩ : ∃ a : Int, 3 + 5 * (k : Int) = a := ⟨_, rfl⟩
      rw [ha] at C1 C2 HE
      generalize zs.getD (3 + 5 * k) 0 = z0 at *
      generalize zs.getD (3 + 5 * k + 1) 0 = z1 at *
      generalize zs.getD (3 + 5 * k + 2) 0 = z2 at *
      generalize zs.getD (3 + 5 * k + 3) 0 = z3 at *
      generalize zs.getD (3 + 5 * k + 4) 0 = z4 at *
      have HJ := Lib.hid hJ
      have HW := Lib.hid hw
      have HI := Lib.hid hI
      have HLT := Lib.hid hlt
      have k1 : (k : Int) < N := by omega
      clear hJ hw hI ha hlt hk
      gi_wp2_with fail
      refine ⟨trivial, ?_⟩
      refine ⟨(fun h => by simp [Fence.wide] at h), ?_⟩
      refine (callsIn_wide.2 C1).mono ?_
      clear C1
      rintro e w' ⟨rfl, rfl⟩
      gi_wp2_with fail
      refine ⟨trivial, ?_⟩
      refine ⟨(fun h => by simp [Fence.wide] at h), ?_⟩
      refine (callsIn_wide.2 C2).mono ?_
      clear C2
      rintro e w1 ⟨rfl, b1⟩
      have b3 := (Below.refl w1.heap.size w1).alloc (Nat.le_refl _) (.cells #[.int .i64 z0, .int .i64 z1, .int .i64 z2, .int .i64 z3, .int .i64 z4] 76)
      have hI3 := (HI.out.fresh b1).fresh b3
      have hJ3 := HJB.out k A _ HJ.out HLT.out ((HW.out.trans (_root_.Go.Proofs.Ytllgcnljpehgeaa.Wrote.of b1 _)).trans (_root_.Go.Proofs.Ytllgcnljpehgeaa.Wrote.of b3 _)) hI3
      obtain ⟨fn, tmps, assign, body, hy, hR⟩ := HY.out k _ _ hJ3 HLT.out
      rw [HE.out] at hy
      have HR := Lib.hid hR
      clear b1 b3 hI3 hJ3 hR c0 HI HW
      gi_wp2_with fail
      refine ⟨(fun h => by simp [Fence.wide] at h), HR.out.mono ?_⟩
      rintro e3 W4 (⟨rfl, hJ4, _⟩ | ⟨rfl, hX⟩)
      · have HJ4 := Lib.hid hJ4
        clear hJ4 hy
        gi_wp2
        go_roundw
        case rel => exact ⟨k + 1, HLT.out, by go_num, W4, HJ4.out, _root_.Go.Proofs.Ytllgcnljpehgeaa.Wrote.refl _ _, HJI.out _ _ HJ4.out⟩
        case measure => simp [intOf]; omega
      · have HXX := Lib.hid hX
        clear hX hy
        gi_wp2
        refine bodyPost_ret (results_none rfl _ _ _) rfl ?_
        exact ⟨⟨_, rfl⟩, .inr ⟨k, HLT.out, HXX.out⟩⟩
    · obtain rfl : k = N := by omega
      have HD := Lib.hid (HJE.out A wr hJ hw hI)
      clear hJ hw hI hk hlt
      gi_wp2
      go_end0
      exact ⟨⟨_, rfl⟩, .inl HD.out⟩

end

end Go.Proofs.Ytllgcnljpehgeaa.M2
namespace Go.Proofs.Ytllgcnljpehgeaa.M2
open Go.RowKit Go.Shelf

theorem infoInt : (Try.prog.info? 3).map (fun i => (i.zero, i.size, i.bytes)) = some (some (.int .i64 0), 1, 8) := by kernel_rfl

/-- The list stands in a variable at lb, its row was made behind n blocks. -/
def LB (n lb : Nat) (xs : List Int) (W : World) : Prop := ∃ v, Go.Boxed W lb 28 v ∧ W.ownsRow n 3 1 v xs.length (xs.map (Value.int .i64))
/-- The same, where all of it was made while there were less than s blocks. -/
def LBs (n lb : Nat) (xs : List Int) (s : Nat) (W : World) : Prop := ∃ v, Go.Boxed W lb 28 v ∧ W.ownsRow n 3 1 v xs.length (xs.map (Value.int .i64)) ∧ (∀ g, v.ownBlock = some g → g < s) ∧ lb < s ∧ s ≤ W.heap.size

/-- What is no variable of a list, nor a row of numbers. -/
def OffL (F : Nat → Prop) (A : World) : Prop := ∀ b, F b → ∀ cs t, A.heap[b]? = some (Obj.cells cs t (0, 0)) → t ≠ 3 ∧ t ≠ 28

section
variable {w A A' W W' : World} {n lb s : Nat} {xs : List Int} {F : Nat → Prop}
theorem OffL.no (A : World) : OffL NoF A := fun _ h => h.elim
theorem OffL.walk {wb p mb : Nat} {l : Bool} {es : Array MapEntry} (h : WalkAt A wb p mb l) (hm : MapIs A mb es) : OffL (WF wb mb) A := by
  intro b hb cs t e
  rcases hb with rfl | rfl
  · rw [h] at e
    simp only [Option.some.injEq, Obj.cells.injEq] at e
    obtain ⟨_, rfl, _⟩ := e
    decide
  · rw [hm] at e
    simp at e

theorem LB.row {v : Value} (h : W.ownsRow n 3 1 v xs.length (xs.map (Value.int .i64))) (g : Nat) (hg : v.ownBlock = some g) : ∃ cs, W.heap[g]? = some (Obj.cells cs 3 (0, 0)) ∧ n ≤ g := by
  rcases h.2 with ⟨rfl, _⟩ | ⟨g', cap, cur, rfl, hb, hg', _⟩
  · simp [Value.ownBlock] at hg
  · simp only [Value.ownBlock, Option.some.injEq] at hg
    subst hg
    exact ⟨_, hg', hb⟩

theorem LB.wrote (h : LB n lb xs A) (hw : _root_.Go.Proofs.Ytllgcnljpehgeaa.Wrote F A A') (hF : OffL F A) : LBs n lb xs A.heap.size A' := by
  obtain ⟨v, hb, hr⟩ := h
  have hne : ∀ g, v.ownBlock = some g → A'.heap[g]? = A.heap[g]? := by
    intro g hg
    obtain ⟨cs, e, _⟩ := LB.row hr g hg
    exact hw.block g (lt_of_block e) (fun hf => (hF g hf _ _ e).1 rfl)
  refine ⟨v, (hw.block lb hb.lt (fun hf => (hF lb hf _ _ hb).2 rfl)).trans hb, _root_.Go.Proofs.Ytllgcnljpehgeaa.own_keep hr hne, ?_, hb.lt, hw.size⟩
  intro g hg
  obtain ⟨cs, e, _⟩ := LB.row hr g hg
  exact lt_of_block e
theorem LBs.one (h : LBs n lb xs s W) : LB n lb xs W := by
  obtain ⟨v, hb, hr, _⟩ := h
  exact ⟨v, hb, hr⟩
theorem LB.later (h : LB n lb xs A) (hw : _root_.Go.Proofs.Ytllgcnljpehgeaa.Wrote F A A') (hF : OffL F A) : LB n lb xs A' := (h.wrote hw hF).one
theorem LB.fresh (h : LB n lb xs A) (hb : Below A.heap.size A A') : LB n lb xs A' := h.later (_root_.Go.Proofs.Ytllgcnljpehgeaa.Wrote.of hb NoF) (OffL.no A)
theorem LBs.fresh (h : LBs n lb xs s A) (hb : Below A.heap.size A A') : LBs n lb xs s A' := by
  obtain ⟨v, hv, hr, h3, h4, h5⟩ := h
  refine ⟨v, (hb.block lb hv.lt).trans hv, _root_.Go.Proofs.Ytllgcnljpehgeaa.own_keep hr ?_, h3, h4, Nat.le_trans h5 hb.size⟩
  intro g hg
  obtain ⟨cs, e, _⟩ := LB.row hr g hg
  exact hb.block g (lt_of_block e)
theorem LB.new (n : Nat) (w : World) : LB n w.heap.size [] (w.alloc (.cells #[.slice none 0 0] 28)) := ⟨_, Go.Boxed.new _ _ _, World.ownsRow_nil _ _ _ _⟩

theorem LB.grown {row : Option Nat} (h : LB n lb xs W) (hg : W.grownBy W' row) (hr : ∀ r, row = some r → ∃ o : Obj, W.heap[r]? = some o ∧ o.isCells = false) : LB n lb xs W' := by
  obtain ⟨v, hb, hw⟩ := h
  have hne : ∀ {k : Nat} {cs : Array Value} {t : TypeId} {z}, W.heap[k]? = some (Obj.cells cs t z) → some k ≠ row := by
    intro k cs t z e hk
    obtain ⟨o, ho, hc⟩ := hr k hk.symm
    rw [e] at ho
    cases ho
    cases hc
  refine ⟨v, (hg.block lb hb.lt (hne hb)).trans hb, _root_.Go.Proofs.Ytllgcnljpehgeaa.own_keep hw fun g hg' => ?_⟩
  obtain ⟨cs, e, _⟩ := LB.row hw g hg'
  exact hg.block g (lt_of_block e) (hne e)
theorem LBs.grown {row : Option Nat} (h : LBs n lb xs s W) (hg : W.grownBy W' row) (hr : ∀ r, row = some r → ∃ o : Obj, W.heap[r]? = some o ∧ o.isCells = false) : LBs n lb xs s W' := by
  obtain ⟨v, hb, hw, h3, h4, h5⟩ := h
  have hne : ∀ {k : Nat} {cs : Array Value} {t : TypeId} {z}, W.heap[k]? = some (Obj.cells cs t z) → some k ≠ row := by
    intro k cs t z e hk
    obtain ⟨o, ho, hc⟩ := hr k hk.symm
    rw [e] at ho
    cases ho
    cases hc
  refine ⟨v, (hg.block lb hb.lt (hne hb)).trans hb, _root_.Go.Proofs.Ytllgcnljpehgeaa.own_keep hw fun g hg' => ?_, h3, h4, Nat.le_trans h5 hg.size⟩
  obtain ⟨cs, e, _⟩ := LB.row hw g hg'
  exact hg.block g (lt_of_block e) (hne e)

theorem WI.grown {p wb mb n₀ : Nat} {l : Bool} {ms : List Nat} {row : Option Nat} (h : WI w p wb mb l ms W) (hm : mb < n₀) (hn : w.heap.size ≤ n₀) (hg : W.grownBy W' row) (hr : ∀ r, row = some r → n₀ ≤ r ∧ ∃ o : Obj, W.heap[r]? = some o ∧ o.isCells = false) : WI w p wb mb l ms W' := by
  obtain ⟨h1, h2, h3⟩ := h
  refine ⟨h1.grown hg h1.size (fun r e => by have := (hr r e).1; omega), (hg.block wb h2.lt ?_).trans h2, (hg.block mb h3.lt ?_).trans h3⟩
  · intro e
    obtain ⟨o, ho, hc⟩ := (hr wb e.symm).2
    rw [h2] at ho
    cases ho
    cases hc
  · intro e
    have := (hr mb e.symm).1
    omega
theorem WA.grown {p cb n₀ : Nat} {row : Option Nat} (h : WA w p cb W) (hn : w.heap.size ≤ n₀) (hg : W.grownBy W' row) (hr : ∀ r, row = some r → n₀ ≤ r ∧ ∃ o : Obj, W.heap[r]? = some o ∧ o.isCells = false) : WA w p cb W' := by
  obtain ⟨h1, h2⟩ := h
  refine ⟨h1.grown hg h1.size (fun r e => by have := (hr r e).1; omega), (hg.block cb (lt_of_block h2) ?_).trans h2⟩
  intro e
  obtain ⟨o, ho, hc⟩ := (hr cb e.symm).2
  rw [h2] at ho
  cases ho
  cases hc

/-- What a round has left that has appended a number: all else is as it was. -/
theorem LB.append {v v' : Value} {x : Int} {tmp : Obj} {w4 : World} (hv : Go.Boxed W lb 28 v) (hrow : W.ownsRow n 3 1 v xs.length (xs.map (Value.int .i64))) (hsz : n ≤ W.heap.size) (hlb : n ≤ lb) (hs : ∀ g, v.ownBlock = some g → g < s) (hls : lb < s)
    (hown : w4.ownsRow n 3 1 v' (xs.length + 1) (xs.map (Value.int .i64) ++ [.int .i64 x])) (hg : (W.alloc tmp).grownBy w4 v.ownBlock) :
    Go.Boxed w4 lb 28 v ∧ LB n lb (xs ++ [x]) (w4.setCell ⟨lb, 0, none⟩ v') ∧ (∀ m, KeepsFrom m W (w4.setCell ⟨lb, 0, none⟩ v')) ∧ Still s W (w4.setCell ⟨lb, 0, none⟩ v') ∧ Below n W (w4.setCell ⟨lb, 0, none⟩ v') ∧
    (∀ (b : Nat) (cs : Array Value) (t : TypeId), W.heap[b]? = some (Obj.cells cs t (0, 0)) → t ≠ 3 → t ≠ 28 → (w4.setCell ⟨lb, 0, none⟩ v').heap[b]? = some (Obj.cells cs t (0, 0))) ∧ (∀ (b : Nat) (es : Array MapEntry), MapIs W b es → MapIs (w4.setCell ⟨lb, 0, none⟩ v') b es) := by
  obtain ⟨a1, a2, a3, a4, a5⟩ := hv.appended (by decide) hrow hsz hlb hown hg
  have hoth : ∀ b, b < W.heap.size → b ≠ lb → v.ownBlock ≠ some b → (w4.setCell ⟨lb, 0, none⟩ v').heap[b]? = W.heap[b]? := by
    intro b hb h1 h2
    refine (Below.heap_setCell _ _ _ _ h1).trans ((hg.block b (by simp; omega) (fun e => h2 e.symm)).trans (Below.heap_alloc _ _ _ hb))
  refine ⟨a1, ⟨v', a2, by rw [List.length_append, List.map_append]; exact a3⟩, fun m => a4.from m, ⟨a5.size, fun b h1 h2 => hoth b h2 (by omega) (fun e => by have := hs b e; omega)⟩, a5, ?_, ?_⟩
  · intro b cs t e h1 h2
    refine (hoth b (lt_of_block (w := W) e) ?_ ?_).trans e
    · rintro rfl
      have : W.heap[b]? = _ := hv
      rw [e] at this
      simp only [Option.some.injEq, Obj.cells.injEq] at this
      exact h2 this.2.1
    · intro hb
      obtain ⟨cs', e', _⟩ := LB.row hrow b hb
      rw [e] at e'
      simp only [Option.some.injEq, Obj.cells.injEq] at e'
      exact h1 e'.2.1
  · intro b es e
    refine (hoth b e.lt ?_ ?_).trans e
    · rintro rfl
      have : W.heap[b]? = _ := hv
      rw [e] at this
      cases this
    · intro hb
      obtain ⟨cs', e', _⟩ := LB.row hrow b hb
      rw [e] at e'
      cases e'
end

theorem below_put {n D : Nat} {W : World} {o' : Obj} (hD : n ≤ D) (hn : n ≤ W.heap.size) : Below n W (W.putObj D o') := (Below.refl n W).grown (grownBy_putObj' W D o') (by omega) (fun k e => by cases e; omega)

/-- A list of numbers that is told. -/
def IntsNew (w : World) (zs : List Int) (v : Value) (w' : World) : Prop := ∃ ao cap, v = .slice ao zs.length cap ∧ Reads .i64 w' ao zs.length zs ∧ Below w.heap.size w w'

theorem IntsNew.of {w W : World} {n : Nat} {v : Value} {xs : List Int} (h : W.ownsRow n 3 1 v xs.length (xs.map (Value.int .i64))) (hb : Below w.heap.size w W) : IntsNew w xs v W := by
  obtain ⟨ao, cap, rfl, hr, _, _⟩ := _root_.Go.Proofs.Ytllgcnljpehgeaa.reads_own h
  exact ⟨ao, cap, rfl, hr, hb⟩
theorem IntsNew.nil (w : World) {W : World} (hb : Below w.heap.size w W) : IntsNew w [] (.slice none 0 0) W := ⟨none, 0, rfl, ⟨rfl, fun h => by simp at h⟩, hb⟩

/-- Addresses as numbers. -/
def ints (ps : List Nat) : List Int := ps.map fun a : Nat => (a : Int)
theorem ints_len (ps : List Nat) : (ints ps).length = ps.length := by simp [ints]
theorem ints_next {ps : List Nat} {k : Nat} (h : k < ps.length) : ints (ps.take k) ++ [((ps.getD k 0 : Nat) : Int)] = ints (ps.take (k + 1)) := by rw [take_next h]; simp [ints]

end Go.Proofs.Ytllgcnljpehgeaa.M2
