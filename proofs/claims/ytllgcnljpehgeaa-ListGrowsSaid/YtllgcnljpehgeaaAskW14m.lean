/-
  What Records and Waiting of package list tell. Conditions: a memory as Mem1 says.
-/
import Derived.Test.YtllgcnljpehgeaaSeqA14
namespace Go.Proofs.Ytllgcnljpehgeaa.M2
open Go.RowKit Go.Shelf

attribute [local go_sem] Oper.semAt_some

/-- The first k records' addresses; those of them that wait. -/
def recK (k : Nat) : List Int := (List.range k).map (fun j : Nat => 3 + 5 * (j : Int))
def waitK (zs : List Int) (k : Nat) : List Int := ((List.range k).filter (fun j => decide (0 < zs.getD (3 + 5 * j) 0))).map (fun j : Nat => 3 + 5 * (j : Int))
theorem recK_next (k : Nat) : recK k ++ [3 + 5 * (k : Int)] = recK (k + 1) := by simp [recK, List.range_succ]
theorem recK_len (k : Nat) : (recK k).length = k := by simp [recK]
theorem waitK_yes {zs : List Int} {k : Nat} (h : 0 < zs.getD (3 + 5 * k) 0) : waitK zs k ++ [3 + 5 * (k : Int)] = waitK zs (k + 1) := by
  simp only [waitK, List.range_succ, List.filter_append, List.map_append, List.filter_cons, h, decide_true, if_true, List.filter_nil, List.map_cons, List.map_nil]
theorem waitK_no {zs : List Int} {k : Nat} (h : ¬ 0 < zs.getD (3 + 5 * k) 0) : waitK zs (k + 1) = waitK zs k := by
  simp only [waitK, List.range_succ, List.filter_append, List.map_append, List.filter_cons, h, decide_false, Bool.false_eq_true, if_false, List.filter_nil, List.map_nil, List.append_nil]
theorem waitK_len (zs : List Int) (k : Nat) : (waitK zs k).length ≤ k := by
  unfold waitK
  rw [List.length_map]
  exact Nat.le_trans (List.length_filter_le _ _) (by simp)

section
variable {w : World} {B p : Nat} {size st : Int} {zs : List Int}

def IK (w : World) (p cb lb : Nat) (xs : Nat → List Int) (k : Nat) (W : World) : Prop := WA w p cb W ∧ LB w.heap.size lb (xs k) W
def IKb (w : World) (p cb lb : Nat) (xs : Nat → List Int) (k s : Nat) (W : World) : Prop := WA w p cb W ∧ LBs w.heap.size lb (xs k) s W

set_option maxRecDepth 100000 in
set_option maxHeartbeats 4000000 in
theorem recordsAny (h : Mem1 w B p size zs st) : Calls Try.prog 17 #[.pointer (some ⟨p, 0, none⟩)] w fun e w' => ∃ v, e = .returned v ∧ IntsNew w (recK (mn zs.length)) v w' := by
  obtain ⟨i0, hi, hz0, hz1, hz2⟩ := info_parts infoInt
  have HMX := Lib.hid (show mn zs.length ≤ 200 by have := h.most; unfold mn; omega)
  obtain ⟨W0, hW0⟩ : ∃ W, w.alloc (.cells #[.slice none 0 0] 28) = W := ⟨_, rfl⟩
  have HL0 := Lib.hid (show LB w.heap.size w.heap.size [] W0 by subst hW0; exact LB.new _ w)
  have HB0 := Lib.hid (show Below w.heap.size w W0 by subst hW0; exact (Below.refl _ _).alloc (Nat.le_refl _) _)
  have HS0 := Lib.hid (show W0.heap.size = w.heap.size + 1 by subst hW0; simp)
  have C := allAny p W0
  have HM := Lib.hid h
  have HW0 := Lib.hid hW0
  clear h hW0
  refine (callsIn_wide (n := 3)).1 ?_
  refine callsIn_of_wp_marks Try.func17 rfl trivial ?_ rfl
  simp only [Try.ntmps17, List.size_toArray, List.length_cons, List.length_nil, Nat.reduceAdd, Nat.reduceSub, Array.replicate_succ, Array.replicate_zero, List.push_toArray, List.append_toArray, List.nil_append, List.cons_append]
  gi_wp2_with fail
  rw [HW0.out]
  refine ⟨trivial, ?_⟩
  try refine ⟨(fun h => by simp [Fence.wide] at h), ?_⟩
  refine (callsIn_wide.2 C).mono ?_
  clear C
  rintro e W1 ⟨rfl, h1, b1⟩
  have HI := Lib.hid (show IK w p W0.heap.size w.heap.size recK 0 W1 from ⟨⟨HB0.out.trans (b1.mono HB0.out.size), h1⟩, HL0.out.fresh b1⟩)
  have hcbs := lt_of_block h1
  have hwm : w.heap.size < W0.heap.size := by have := HS0.out; omega
  have hlt0 : w.heap.size < W1.heap.size := by omega
  clear h1 b1 HL0 HB0 HW0
  generalize hcb : W0.heap.size = cb at *
  generalize hlb : w.heap.size = lb at *
  have HLB := Lib.hid hlb
  have Hcbs := Lib.hid hcbs
  have HLW := Lib.hid hlt0
  clear hcb HS0 hlb hwm
  gi_wp2
  refine' wpIn_rangeG (gf := 60) (rc := #[]) (lb := #[.pointer (some ⟨cb, 0, none⟩)]) rfl (by omega) rfl trivial (enters_of Try.func60 (by kernel_rfl) rfl) (encR zs) (fun _ => rfl) (mn zs.length) 0
    NoF (fun _ h => h.elim) _ _ _ (allSeq (3 - 1) HM.out) (IK w p cb lb recK) (IKb w p cb lb recK) (fun _ _ => False) (fun _ _ => False) (fun W => WA w p cb W ∧ LB w.heap.size lb (recK (mn zs.length)) W)
    (fun k A h => h.1) (fun k A A' h _ hw hb => ⟨hb, h.2.wrote hw (OffL.no A)⟩) (fun A A' h hw he => ⟨he, h.2.later hw (OffL.no A)⟩)
    ?oI ?oIb (fun _ _ _ _ h _ _ => h) (fun _ _ _ _ h _ _ => h) ?oIe HI.out _ ?assign ?body ?done (fun _ _ _ _ _ h _ => h.elim) (fun _ _ _ _ _ h _ => h.elim)
  case oI => exact fun k W W' row h hg hr => ⟨h.1.grown (by have := HLB.out; have := HLW.out; omega) hg hr, h.2.grown hg (fun r e => (hr r e).2)⟩
  case oIb => exact fun s k W W' row h hg hr => ⟨h.1.grown (by have := HLB.out; have := HLW.out; omega) hg hr, h.2.grown hg (fun r e => (hr r e).2)⟩
  case oIe => exact fun k W W' row h hg hr => ⟨h.1.grown (by have := HLB.out; have := HLW.out; omega) hg hr, h.2.grown hg (fun r e => (hr r e).2)⟩
  case assign =>
    intro l k W K hK
    simp only [encR]
    gi_wp2
    exact hK
  case body =>
    rintro l k s W ⟨hI, v, hv, hrow, hvs, hls, hss⟩ hlt
    have hc := hv.cell
    have HX := Lib.hid (recK_next k)
    have HKL := Lib.hid (show (recK k).length ≤ 200 by rw [recK_len]; have := HMX.out; omega)
    have HV := Lib.hid hv
    have HRow := Lib.hid hrow
    have HVS := Lib.hid hvs
    have HLS := Lib.hid hls
    have HI2 := Lib.hid hI
    have HBW := Lib.hid (show w.heap.size ≤ W.heap.size from hI.1.size)
    clear hv hrow hvs hls hss hI hlt0 hcbs hlt
    generalize 3 + 5 * (k : Int) = x at *
    gi_wp2_with (gi_at_builtin; refine wpListIn_append_own _ rfl _ _ 28 rfl w.heap.size 3 i0 _ 1 8 Try.underlying28 hi hz0 hz1 hz2 rfl (by decide) v _ _ rfl (HRow.out.alloc _) ⟨W.heap.size, 0, none⟩ 1 1 [.int .i64 x] rfl rfl (by intro j u hu; cases j <;> simp at hu; subst hu; go_simp) (by intro u hu; simp at hu; subst hu; rfl) (by have := HKL.out; simp only [maxLen]; omega) (by have := HKL.out; omega) (by have := HBW.out; simp; omega) ?_; intro v' w4 hown' hgrow _; obtain ⟨ao', cap', rfl⟩ := _root_.Go.Proofs.Ytllgcnljpehgeaa.ownShape hown'; have HA := Lib.hid (LB.append HV.out HRow.out HBW.out (Nat.le_of_eq HLB.out) HVS.out HLS.out hown' hgrow); clear hown' hgrow; have k4 := HA.out.1.cell; have f4 := HA.out.1.frozen)
    obtain ⟨_, a1, a2, a3, a4, a5, a6⟩ := HA.out
    rw [HX.out] at a1
    exact ⟨a2 _, a3, ⟨HI2.out.1.trans a4, a5 _ _ _ HI2.out.2 (by decide) (by decide)⟩, a1⟩
  case done =>
    rintro D W hD ⟨hI, v, hv, hrow⟩ hK
    have hc := hv.cell
    have HRow := Lib.hid hrow
    have HD := Lib.hid (show w.heap.size ≤ D by have := HLB.out; omega)
    have HI2 := Lib.hid hI
    clear hrow hI hv hD hlt0 hcbs
    gi_wp2
    refine ⟨by simp, .inl ⟨_, _, rfl, run_takeDeferred hK, ?_⟩⟩
    refine ⟨_, results_tmp rfl _ _ _, v, rfl, IntsNew.of (ownsRow_putObj HRow.out _ hK rfl) (HI2.out.1.trans (below_put HD.out HI2.out.1.size))⟩

set_option maxRecDepth 100000 in
set_option maxHeartbeats 4000000 in
theorem waitingAny (h : Mem1 w B p size zs st) : Calls Try.prog 19 #[.pointer (some ⟨p, 0, none⟩)] w fun e w' => ∃ v, e = .returned v ∧ IntsNew w (waitK zs (mn zs.length)) v w' := by
  obtain ⟨i0, hi, hz0, hz1, hz2⟩ := info_parts infoInt
  have HMX := Lib.hid (show mn zs.length ≤ 200 by have := h.most; unfold mn; omega)
  obtain ⟨W0, hW0⟩ : ∃ W, w.alloc (.cells #[.slice none 0 0] 28) = W := ⟨_, rfl⟩
  have HL0 := Lib.hid (show LB w.heap.size w.heap.size [] W0 by subst hW0; exact LB.new _ w)
  have HB0 := Lib.hid (show Below w.heap.size w W0 by subst hW0; exact (Below.refl _ _).alloc (Nat.le_refl _) _)
  have HS0 := Lib.hid (show W0.heap.size = w.heap.size + 1 by subst hW0; simp)
  have C := allAny p W0
  have HM := Lib.hid h
  have HW0 := Lib.hid hW0
  clear h hW0
  refine (callsIn_wide (n := 3)).1 ?_
  refine callsIn_of_wp_marks Try.func19 rfl trivial ?_ rfl
  simp only [Try.ntmps19, List.size_toArray, List.length_cons, List.length_nil, Nat.reduceAdd, Nat.reduceSub, Array.replicate_succ, Array.replicate_zero, List.push_toArray, List.append_toArray, List.nil_append, List.cons_append]
  gi_wp2_with fail
  rw [HW0.out]
  refine ⟨trivial, ?_⟩
  try refine ⟨(fun h => by simp [Fence.wide] at h), ?_⟩
  refine (callsIn_wide.2 C).mono ?_
  clear C
  rintro e W1 ⟨rfl, h1, b1⟩
  have HI := Lib.hid (show IK w p W0.heap.size w.heap.size (waitK zs) 0 W1 from ⟨⟨HB0.out.trans (b1.mono HB0.out.size), h1⟩, HL0.out.fresh b1⟩)
  have hcbs := lt_of_block h1
  have hwm : w.heap.size < W0.heap.size := by have := HS0.out; omega
  have hlt0 : w.heap.size < W1.heap.size := by omega
  clear h1 b1 HL0 HB0 HW0
  generalize hcb : W0.heap.size = cb at *
  generalize hlb : w.heap.size = lb at *
  have HLB := Lib.hid hlb
  have Hcbs := Lib.hid hcbs
  have HLW := Lib.hid hlt0
  clear hcb HS0 hlb hwm
  gi_wp2
  refine' wpIn_rangeB (gf := 60) (rc := #[]) (lb := #[.pointer (some ⟨cb, 0, none⟩)]) rfl (by omega) rfl trivial (enters_of Try.func60 (by kernel_rfl) rfl) (encR zs) (fun _ => rfl) (mn zs.length) 0
    NoF (fun _ h => h.elim) _ _ _ (allSeq (3 - 1) HM.out) (IK w p cb lb (waitK zs)) (IKb w p cb lb (waitK zs)) (fun _ _ => False) (fun _ _ => False) (fun W => WA w p cb W ∧ LB w.heap.size lb (waitK zs (mn zs.length)) W)
    (fun k A h => h.1) (fun k A A' h _ hw hb => ⟨hb, h.2.wrote hw (OffL.no A)⟩) (fun A A' h hw he => ⟨he, h.2.later hw (OffL.no A)⟩)
    ?oI ?oIb (fun _ _ _ _ h _ _ => h) (fun _ _ _ _ h _ _ => h) ?oIe HI.out (fun k => .cells #[.int .i64 (zs.getD (3 + 5 * k) 0), .int .i64 (zs.getD (3 + 5 * k + 1) 0), .int .i64 (zs.getD (3 + 5 * k + 2) 0), .int .i64 (zs.getD (3 + 5 * k + 3) 0), .int .i64 (zs.getD (3 + 5 * k + 4) 0)] 76) _ ?assign ?body ?done (fun _ _ _ _ _ h _ => h.elim) (fun _ _ _ _ _ h _ => h.elim)
  case oI => exact fun k W W' row h hg hr => ⟨h.1.grown (by have := HLB.out; have := HLW.out; omega) hg hr, h.2.grown hg (fun r e => (hr r e).2)⟩
  case oIb => exact fun s k W W' row h hg hr => ⟨h.1.grown (by have := HLB.out; have := HLW.out; omega) hg hr, h.2.grown hg (fun r e => (hr r e).2)⟩
  case oIe => exact fun k W W' row h hg hr => ⟨h.1.grown (by have := HLB.out; have := HLW.out; omega) hg hr, h.2.grown hg (fun r e => (hr r e).2)⟩
  case assign =>
    intro l k W K hK
    simp only [encR, recV]
    simp only [List.getD_eq_getElem?_getD] at hK
    gi_wp2
    generalize W.heap.size = b at hK ⊢
    exact hK
  case body =>
    rintro l k s b W ⟨hI, hL⟩ hlt hsb hbx
    have hyes := @waitK_yes zs k
    have hno := @waitK_no zs k
    have hwl := waitK_len zs k
    have HKL := Lib.hid (show (waitK zs k).length ≤ 200 by have := HMX.out; omega)
    generalize zs.getD (3 + 5 * k) 0 = z0 at *
    generalize zs.getD (3 + 5 * k + 1) 0 = z1 at *
    generalize zs.getD (3 + 5 * k + 2) 0 = z2 at *
    generalize zs.getD (3 + 5 * k + 3) 0 = z3 at *
    generalize zs.getD (3 + 5 * k + 4) 0 = z4 at *
    have C := waitsAny z0 z1 z2 z3 z4 W
    have hb5 : B5 W b 76 z0 z1 z2 z3 z4 := hbx
    have r0 := hb5.c0
    have r1 := hb5.c1
    have r2 := hb5.c2
    have r3 := hb5.c3
    have r4 := hb5.c4
    have HI2 := Lib.hid hI
    have HL := Lib.hid hL
    have HY := Lib.hid hyes
    have HNo := Lib.hid hno
    have HSW := Lib.hid (show s ≤ W.heap.size by obtain ⟨_, _, _, _, _, h5⟩ := hL; exact h5)
    clear hI hL hlt hbx hb5 hlt0 hcbs hyes hno hwl hsb
    by_cases hz : 0 < z0
    · have HX := Lib.hid (HY.out hz)
      rw [show decide (0 < z0) = true from decide_eq_true hz] at C
      clear HY HNo hz
      gi_wp2_with fail
      refine ⟨trivial, ?_⟩
      try refine ⟨(fun h => by simp [Fence.wide] at h), ?_⟩
      refine (CallsIn.inRound _ (callsIn_wide.2 C)).mono ?_
      clear C
      rintro e w5 ⟨rfl, b5⟩
      obtain ⟨v, hv, hrow, hvs, hls, hss⟩ := HL.out.fresh b5
      have hc := hv.cell
      have HV := Lib.hid hv
      have HRow := Lib.hid hrow
      have HVS := Lib.hid hvs
      have HLS := Lib.hid hls
      have HI5 := Lib.hid (HI2.out.fresh b5)
      have HBW := Lib.hid (show w.heap.size ≤ w5.heap.size from HI5.out.1.size)
      have HSt := Lib.hid (Still.of (s := s) b5)
      have HKO := Lib.hid (show KeepsOthers W w5 from ⟨b5.size, fun k _ hk _ => (b5.block k (Array.getElem?_eq_some_iff.1 hk).1).trans hk⟩)
      clear hv hrow hvs hls hss b5 r0 r1 r2 r3 r4
      generalize 3 + 5 * (k : Int) = x at *
      gi_wp2_with (gi_at_builtin; refine wpListIn_append_own _ rfl _ _ 28 rfl w.heap.size 3 i0 _ 1 8 Try.underlying28 hi hz0 hz1 hz2 rfl (by decide) v _ _ rfl (HRow.out.alloc _) ⟨w5.heap.size, 0, none⟩ 1 1 [.int .i64 x] rfl rfl (by intro j u hu; cases j <;> simp at hu; subst hu; go_simp) (by intro u hu; simp at hu; subst hu; rfl) (by have := HKL.out; simp only [maxLen]; omega) (by have := HKL.out; omega) (by have := HBW.out; simp; omega) ?_; intro v' w4 hown' hgrow _; obtain ⟨ao', cap', rfl⟩ := _root_.Go.Proofs.Ytllgcnljpehgeaa.ownShape hown'; have HA := Lib.hid (LB.append HV.out HRow.out HBW.out (Nat.le_of_eq HLB.out) HVS.out HLS.out hown' hgrow); clear hown' hgrow; have k4 := HA.out.1.cell; have f4 := HA.out.1.frozen)
      obtain ⟨_, a1, a2, a3, a4, a5, a6⟩ := HA.out
      rw [HX.out] at a1
      exact ⟨(HKO.out.from _).trans (a2 _), HSt.out.trans a3, ⟨HI5.out.1.trans a4, a5 _ _ _ HI5.out.2 (by decide) (by decide)⟩, a1⟩
    · have HX := Lib.hid (HNo.out hz)
      rw [show decide (0 < z0) = false from decide_eq_false hz] at C
      clear HY HNo hz
      gi_wp2_with fail
      refine ⟨trivial, ?_⟩
      try refine ⟨(fun h => by simp [Fence.wide] at h), ?_⟩
      refine (CallsIn.inRound _ (callsIn_wide.2 C)).mono ?_
      clear C
      rintro e w5 ⟨rfl, b5⟩
      have HI5 := Lib.hid (HI2.out.fresh b5)
      have HL5 := Lib.hid (HL.out.fresh b5).one
      have HSt := Lib.hid (Still.of (s := s) b5)
      have HKO := Lib.hid (show KeepsOthers W w5 from ⟨b5.size, fun k _ hk _ => (b5.block k (Array.getElem?_eq_some_iff.1 hk).1).trans hk⟩)
      clear b5 r0 r1 r2 r3 r4
      gi_wp2
      exact ⟨HKO.out.from _, HSt.out, HI5.out, by rw [HX.out]; exact HL5.out⟩
  case done =>
    rintro D W hD ⟨hI, v, hv, hrow⟩ hK
    have hc := hv.cell
    have HRow := Lib.hid hrow
    have HD := Lib.hid (show w.heap.size ≤ D by have := HLB.out; omega)
    have HI2 := Lib.hid hI
    clear hrow hI hv hD hlt0 hcbs
    gi_wp2
    refine ⟨by simp, .inl ⟨_, _, rfl, run_takeDeferred hK, ?_⟩⟩
    refine ⟨_, results_tmp rfl _ _ _, v, rfl, IntsNew.of (ownsRow_putObj HRow.out _ hK rfl) (HI2.out.1.trans (below_put HD.out HI2.out.1.size))⟩
end

end Go.Proofs.Ytllgcnljpehgeaa.M2
