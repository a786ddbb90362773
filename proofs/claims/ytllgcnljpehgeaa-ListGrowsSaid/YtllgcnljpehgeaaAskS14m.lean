/-
  What Stale of package list tells. Conditions: a memory as Mem1 says.
-/
import Derived.Test.YtllgcnljpehgeaaSeqA14
namespace Go.Proofs.Ytllgcnljpehgeaa.M2
open Go.RowKit Go.Shelf

attribute [local go_sem] Oper.semAt_some

/-- Whether the one at place i of the list is told. -/
def oldAt (zs : List Int) (ps : List Nat) (age : Int) (i : Nat) : Bool := decide (1 ≤ i) && oldB (zs.getD (ps.getD i 0) 0) (zs.getD (ps.getD i 0 + 1) 0) (zs.getD (ps.getD i 0 + 2) 0) (zs.getD 2 0) age
def staleK (zs : List Int) (ps : List Nat) (age : Int) (k : Nat) : List Int := ((List.range k).filter (oldAt zs ps age)).map (fun i => ((ps.getD i 0 : Nat) : Int))
theorem staleK_yes {zs : List Int} {ps : List Nat} {age : Int} {k : Nat} (h : oldAt zs ps age k = true) : staleK zs ps age k ++ [((ps.getD k 0 : Nat) : Int)] = staleK zs ps age (k + 1) := by
  simp only [staleK, List.range_succ, List.filter_append, List.map_append, List.filter_cons, h, if_true, List.filter_nil, List.map_cons, List.map_nil]
theorem staleK_no {zs : List Int} {ps : List Nat} {age : Int} {k : Nat} (h : oldAt zs ps age k = false) : staleK zs ps age (k + 1) = staleK zs ps age k := by
  simp only [staleK, List.range_succ, List.filter_append, List.map_append, List.filter_cons, h, Bool.false_eq_true, if_false, List.filter_nil, List.map_nil, List.append_nil]
theorem staleK_len (zs : List Int) (ps : List Nat) (age : Int) (k : Nat) : (staleK zs ps age k).length ≤ k := by
  unfold staleK
  rw [List.length_map]
  exact Nat.le_trans (List.length_filter_le _ _) (by simp)

theorem boxG {W W' : World} {b : Nat} {t : TypeId} {v : Value} {row : Option Nat} (h : Go.Boxed W b t v) (hg : W.grownBy W' row) (hr : ∀ r, row = some r → ∃ o : Obj, W.heap[r]? = some o ∧ o.isCells = false) : Go.Boxed W' b t v := by
  refine (hg.block b h.lt ?_).trans h
  intro e
  obtain ⟨o, ho, hc⟩ := hr b e.symm
  rw [show W.heap[b]? = _ from h] at ho
  cases ho
  cases hc
theorem boxB {W W' : World} {b : Nat} {t : TypeId} {v : Value} (h : Go.Boxed W b t v) (hb : Below W.heap.size W W') : Go.Boxed W' b t v := (hb.block b h.lt).trans h
theorem boxW {F : Nat → Prop} {W W' : World} {b : Nat} {t : TypeId} {v : Value} (h : Go.Boxed W b t v) (hw : _root_.Go.Proofs.Ytllgcnljpehgeaa.Wrote F W W') (hn : ¬ F b) : Go.Boxed W' b t v := (hw.block b h.lt hn).trans h

theorem len_met {W : World} {mb : Nat} {ms : List Nat} (h : MapIs W mb (metE ms)) (ty : TypeId) : (Builtin.len_ #[72] ty #[.map (some mb)]).run Try.prog W = .ok (.int .i64 (ms.length : Nat)) W := by
  have e := metE_size ms
  simp [Builtin.len_, run_underlying Try.underlying72, MapKept.run_getObj_map h, goInt, Result.andThen, e]

/-- The boxes beside: the age, the walk's pointer, the pass. -/
def BX (wb g3 g6 g7 : Nat) (age pass : Int) (W : World) : Prop := Go.Boxed W g3 3 (.int .i64 age) ∧ Go.Boxed W g6 69 (.pointer (some ⟨wb, 0, none⟩)) ∧ Go.Boxed W g7 2 (.int .i64 pass)
section
variable {W W' : World} {wb mb g3 g6 g7 : Nat} {age pass : Int}
theorem BX.grown {row : Option Nat} (h : BX wb g3 g6 g7 age pass W) (hg : W.grownBy W' row) (hr : ∀ r, row = some r → ∃ o : Obj, W.heap[r]? = some o ∧ o.isCells = false) : BX wb g3 g6 g7 age pass W' := ⟨boxG h.1 hg hr, boxG h.2.1 hg hr, boxG h.2.2 hg hr⟩
theorem BX.fresh (h : BX wb g3 g6 g7 age pass W) (hb : Below W.heap.size W W') : BX wb g3 g6 g7 age pass W' := ⟨boxB h.1 hb, boxB h.2.1 hb, boxB h.2.2 hb⟩
theorem BX.wrote {F : Nat → Prop} (h : BX wb g3 g6 g7 age pass W) (hw : _root_.Go.Proofs.Ytllgcnljpehgeaa.Wrote F W W') (h3 : ¬ F g3) (h6 : ¬ F g6) (h7 : ¬ F g7) : BX wb g3 g6 g7 age pass W' := ⟨boxW h.1 hw h3, boxW h.2.1 hw h6, boxW h.2.2 hw h7⟩
end

section
variable {w : World} {B p : Nat} {size st : Int} {zs : List Int} {ps : List Nat} {lost : Bool}

def IS (w : World) (p wb mb lb g3 g6 g7 : Nat) (zs : List Int) (ps : List Nat) (age pass : Int) (k : Nat) (W : World) : Prop := WI w p wb mb false (ps.take k) W ∧ LB lb lb (staleK zs ps age k) W ∧ BX wb g3 g6 g7 age pass W
def ISb (w : World) (p wb mb lb g3 g6 g7 : Nat) (zs : List Int) (ps : List Nat) (age pass : Int) (k s : Nat) (W : World) : Prop := WI w p wb mb false (ps.take (k + 1)) W ∧ LBs lb lb (staleK zs ps age k) s W ∧ BX wb g3 g6 g7 age pass W

set_option maxRecDepth 100000 in
set_option maxHeartbeats 4000000 in
theorem staleLAny (h : Mem1 w B p size zs st) (hP : Path zs ps lost) (age : Int) : Calls Try.prog 22 #[.pointer (some ⟨p, 0, none⟩), .int .i64 age] w fun e w' => ∃ v, e = .returned v ∧ IntsNew w (if lost then [] else staleK zs ps age ps.length) v w' := by
  obtain ⟨i0, hi, hz0, hz1, hz2⟩ := info_parts infoInt
  have HMX := Lib.hid (show ps.length ≤ 200 by have := h.most; have := hP.len; unfold mn at this; omega)
  obtain ⟨W0, hW0⟩ : ∃ W, (w.alloc (.cells #[.int .i64 age] 3)).alloc (.cells #[.slice none 0 0] 28) = W := ⟨_, rfl⟩
  have HA0 := Lib.hid (show Go.Boxed W0 w.heap.size 3 (.int .i64 age) by subst hW0; exact (Go.Boxed.new _ _ _).alloc _)
  have HL0 := Lib.hid (show LB (w.heap.size + 1) (w.heap.size + 1) [] W0 by subst hW0; have := LB.new (w.heap.size + 1) (w.alloc (.cells #[.int .i64 age] 3)); simpa using this)
  have HB0 := Lib.hid (show Below w.heap.size w W0 by subst hW0; exact ((Below.refl _ _).alloc (Nat.le_refl _) _).alloc (by simp) _)
  have HS0 := Lib.hid (show W0.heap.size = w.heap.size + 2 by subst hW0; simp)
  have C := fromAny p W0
  have HP := Lib.hid hP
  have HM := Lib.hid h
  have HW0 := Lib.hid hW0
  have hmf : ∀ (fn : Fn) (first cap : Array Value) (w : World), (Instr.makeFunc fn first cap).run Try.prog w = .ok (.func fn first cap) w := fun _ _ _ _ => rfl
  clear h hP hW0
  refine (callsIn_wide (n := 3)).1 ?_
  refine callsIn_of_wp_marks Try.func22 rfl trivial ?_ rfl
  simp only [Try.ntmps22, List.size_toArray, List.length_cons, List.length_nil, Nat.reduceAdd, Nat.reduceSub, Array.replicate_succ, Array.replicate_zero, List.push_toArray, List.append_toArray, List.nil_append, List.cons_append]
  gi_wp2_with fail
  rw [HW0.out]
  refine ⟨trivial, ?_⟩
  try refine ⟨(fun h => by simp [Fence.wide] at h), ?_⟩
  refine (callsIn_wide.2 C).mono ?_
  clear C
  rintro e W1 ⟨rfl, h1, h2, b1⟩
  have HI1 := Lib.hid (show WI w p (W0.heap.size + 1) W0.heap.size false [] W1 from ⟨HB0.out.trans (b1.mono HB0.out.size), h1, h2⟩)
  have HL1 := Lib.hid (HL0.out.fresh b1)
  have HA1 := Lib.hid (boxB HA0.out b1)
  have HN := Lib.hid (show w.heap.size + 1 < W0.heap.size by have := HS0.out; omega)
  clear h1 h2 b1 HL0 HB0 HW0 HA0 HS0
  generalize hmb : W0.heap.size = mb at *
  generalize hwb : mb + 1 = wb at *
  generalize hg3 : w.heap.size = g3 at *
  generalize hlb : g3 + 1 = lb at *
  have HMW := Lib.hid (show mb < wb by omega)
  have HG3 := Lib.hid hg3
  have HLB := Lib.hid hlb
  clear hmb hwb hg3 hlb
  obtain ⟨V1, hV1⟩ : ∃ V, W1.alloc (.cells #[.pointer (some ⟨wb, 0, none⟩)] 69) = V := ⟨_, rfl⟩
  have hb1 : Below W1.heap.size W1 V1 := by subst hV1; exact (Below.refl _ _).alloc (Nat.le_refl _) _
  have HG6 := Lib.hid (show Go.Boxed V1 W1.heap.size 69 (.pointer (some ⟨wb, 0, none⟩)) by subst hV1; exact Go.Boxed.new _ _ _)
  have HI2 := Lib.hid (HI1.out.fresh hb1)
  have HL2 := Lib.hid (HL1.out.fresh hb1)
  have HA2 := Lib.hid (boxB HA1.out hb1)
  have C : Calls Try.prog 44 #[.pointer (some ⟨p, 0, none⟩), .int .i64 2] V1 fun e w' => e = .returned (.int .i64 (zs.getD 2 0)) ∧ Below V1.heap.size V1 w' := cellAny (HM.out.keep HI2.out.1) 2 (by omega)
  have HN6 := Lib.hid (show wb < W1.heap.size from HI1.out.2.1.lt)
  have HV1 := Lib.hid hV1
  obtain ⟨pass, hpass⟩ : ∃ z, zs.getD 2 0 = z := ⟨_, rfl⟩
  rw [hpass] at C
  have HPass := Lib.hid hpass
  clear hpass hV1 hb1 HI1 HL1 HA1
  gi_wp2_with fail
  rw [HV1.out]
  refine ⟨trivial, ?_⟩
  try refine ⟨(fun h => by simp [Fence.wide] at h), ?_⟩
  refine (callsIn_wide.2 C).mono ?_
  clear C HV1
  generalize hg6 : W1.heap.size = g6 at *
  clear hg6
  rintro e W2 ⟨rfl, b2⟩
  obtain ⟨V2, hV2⟩ : ∃ V, W2.alloc (.cells #[.int .i64 pass] 2) = V := ⟨_, rfl⟩
  have hb2 : Below W2.heap.size W2 V2 := by subst hV2; exact (Below.refl _ _).alloc (Nat.le_refl _) _
  have HI := Lib.hid (show IS w p wb mb lb g3 g6 W2.heap.size zs ps age pass 0 V2 from ⟨(HI2.out.fresh b2).fresh hb2, (HL2.out.fresh b2).fresh hb2, boxB (boxB HA2.out b2) hb2, boxB (boxB HG6.out b2) hb2, by subst hV2; exact Go.Boxed.new _ _ _⟩)
  have c6 := (boxB HG6.out b2).cell
  have HN7 := Lib.hid (show g6 < W2.heap.size from (boxB HG6.out b2).lt)
  have HV2 := Lib.hid hV2
  have hs2 : V2.heap.size = W2.heap.size + 1 := by subst hV2; simp
  have hl6 := HN7.out
  clear b2 hb2 hV2 HI2 HL2 HA2 HG6
  gi_wp2
  rw [HV2.out]
  clear HV2 c6 hl6
  generalize W2.heap.size = g7 at *
  have HV := Lib.hid hs2
  clear hs2
  refine' wpIn_rangeB (gf := 40) (rc := #[.pointer (some ⟨wb, 0, none⟩)]) (lb := #[]) rfl (by omega) rfl trivial (enters_of Try.func40 (by kernel_rfl) rfl) (encA zs ps) (fun _ => rfl) ps.length 0
    (WF wb mb) ?hF _ _ _ (alongSeq (3 - 1) HM.out HP.out ?s1 ?s2 ?s3) (IS w p wb mb lb g3 g6 g7 zs ps age pass) (ISb w p wb mb lb g3 g6 g7 zs ps age pass) (fun _ _ => False) (fun _ _ => False) (fun W => WI w p wb mb lost ps W ∧ LB lb lb (staleK zs ps age ps.length) W ∧ BX wb g3 g6 g7 age pass W)
    (fun k A h => h.1) (fun k A A' h _ hw hb => ⟨hb, h.2.1.wrote hw (OffL.walk h.1.2.1 h.1.2.2), h.2.2.wrote hw ?n3 ?n6 ?n7⟩) (fun A A' h hw he => ⟨he, h.2.1.later hw (OffL.walk h.1.2.1 h.1.2.2), h.2.2.wrote hw ?m3 ?m6 ?m7⟩)
    ?oI ?oIb (fun _ _ _ _ h _ _ => h) (fun _ _ _ _ h _ _ => h) ?oIe HI.out (fun k => .cells #[.int .i64 (zs.getD (ps.getD k 0) 0), .int .i64 (zs.getD (ps.getD k 0 + 1) 0), .int .i64 (zs.getD (ps.getD k 0 + 2) 0), .int .i64 (zs.getD (ps.getD k 0 + 3) 0), .int .i64 (zs.getD (ps.getD k 0 + 4) 0)] 76) _ ?assign ?body ?done (fun _ _ _ _ _ h _ => h.elim) (fun _ _ _ _ _ h _ => h.elim)
  case hF => rintro b (rfl | rfl) <;> have := HMW.out <;> have := HN6.out <;> have := HN7.out <;> have := HV.out <;> omega
  case s1 => have := HN.out; have := HMW.out; have := HLB.out; have := HG3.out; omega
  case s2 => have := HN.out; have := HMW.out; have := HLB.out; have := HG3.out; omega
  case s3 => have := HMW.out; omega
  case n3 | m3 => rintro (e | e) <;> have := HN.out <;> have := HMW.out <;> have := HLB.out <;> omega
  case n6 | m6 => rintro (e | e) <;> have := HN6.out <;> have := HMW.out <;> omega
  case n7 | m7 => rintro (e | e) <;> have := HN6.out <;> have := HN7.out <;> have := HMW.out <;> omega
  case oI => exact fun k W W' row h hg hr => ⟨h.1.grown (by have := HMW.out; have := HN6.out; have := HN7.out; have := HV.out; omega) (by have := HLB.out; have := HG3.out; have := HN.out; have := HMW.out; have := HN6.out; have := HN7.out; have := HV.out; omega) hg hr, h.2.1.grown hg (fun r e => (hr r e).2), h.2.2.grown hg (fun r e => (hr r e).2)⟩
  case oIb => exact fun s k W W' row h hg hr => ⟨h.1.grown (by have := HMW.out; have := HN6.out; have := HN7.out; have := HV.out; omega) (by have := HLB.out; have := HG3.out; have := HN.out; have := HMW.out; have := HN6.out; have := HN7.out; have := HV.out; omega) hg hr, h.2.1.grown hg (fun r e => (hr r e).2), h.2.2.grown hg (fun r e => (hr r e).2)⟩
  case oIe => exact fun k W W' row h hg hr => ⟨h.1.grown (by have := HMW.out; have := HN6.out; have := HN7.out; have := HV.out; omega) (by have := HLB.out; have := HG3.out; have := HN.out; have := HMW.out; have := HN6.out; have := HN7.out; have := HV.out; omega) hg hr, h.2.1.grown hg (fun r e => (hr r e).2), h.2.2.grown hg (fun r e => (hr r e).2)⟩
  case assign =>
    intro l k W K hK
    simp only [encA, recV]
    simp only [List.getD_eq_getElem?_getD] at hK
    gi_wp2
    generalize W.heap.size = b at hK ⊢
    exact hK
  case body =>
    rintro l k s b W ⟨hI, hL, hX⟩ hlt hsb hbx
    have hyes := @staleK_yes zs ps age k
    have hno := @staleK_no zs ps age k
    have hat : oldAt zs ps age k = (decide (1 ≤ k) && oldB (zs.getD (ps.getD k 0) 0) (zs.getD (ps.getD k 0 + 1) 0) (zs.getD (ps.getD k 0 + 2) 0) pass age) := by rw [← HPass.out]; rfl
    have HKL := Lib.hid (show (staleK zs ps age k).length ≤ 200 by have := staleK_len zs ps age k; have := HMX.out; omega)
    have hlen := len_met hI.2.2
    rw [List.length_take, Nat.min_eq_left (show k + 1 ≤ ps.length from hlt), show ((k + 1 : Nat) : Int) = (k : Int) + 1 by omega] at hlen
    simp only [List.getD_eq_getElem?_getD] at hyes hno hat hbx
    generalize ps[k]?.getD 0 = x at *
    generalize zs[x]?.getD 0 = z0 at *
    generalize zs[x + 1]?.getD 0 = z1 at *
    generalize zs[x + 2]?.getD 0 = z2 at *
    generalize zs[x + 3]?.getD 0 = z3 at *
    generalize zs[x + 4]?.getD 0 = z4 at *
    have C := staleAny z0 z1 z2 z3 z4 pass age W
    have hb5 : B5 W b 76 z0 z1 z2 z3 z4 := hbx
    have r0 := hb5.c0
    have r1 := hb5.c1
    have r2 := hb5.c2
    have r3 := hb5.c3
    have r4 := hb5.c4
    have x3 := hX.1.cell
    have x6 := hX.2.1.cell
    have x7 := hX.2.2.cell
    have d1 := hI.2.1.c1
    have HI2 := Lib.hid hI
    have HL := Lib.hid hL
    have HXX := Lib.hid hX
    have HY := Lib.hid hyes
    have HNo := Lib.hid hno
    have HSW := Lib.hid (show s ≤ W.heap.size by obtain ⟨_, _, _, _, _, h5⟩ := hL; exact h5)
    have HBW := Lib.hid (show lb ≤ W.heap.size by have := HLB.out; have := HG3.out; have := hX.1.lt; omega)
    have HAt := Lib.hid hat
    clear hI hL hX hlt hbx hb5 hyes hno hsb hat
    by_cases h1 : 1 ≤ k
    · have d : decide ((1 : Int) < (k : Int) + 1) = true := decide_eq_true (by omega)
      rcases hob : oldB z0 z1 z2 pass age with _ | _
      · have HE := Lib.hid (HNo.out (by rw [HAt.out, hob]; simp))
        rw [hob] at C
        clear hob h1 HY HNo HAt
        gi_wp2_with fail
        refine ⟨trivial, ?_⟩
        try refine ⟨(fun h => by simp [Fence.wide] at h), ?_⟩
        refine (CallsIn.inRound _ (callsIn_wide.2 C)).mono ?_
        clear C
        rintro e w5 ⟨rfl, b5⟩
        have HI5 := Lib.hid (HI2.out.fresh b5)
        have HX5 := Lib.hid (HXX.out.fresh b5)
        have HL5 := Lib.hid (HL.out.fresh b5).one
        have HSt := Lib.hid (Still.of (s := s) b5)
        have HKO := Lib.hid (show KeepsOthers W w5 from ⟨b5.size, fun k _ hk _ => (b5.block k (Array.getElem?_eq_some_iff.1 hk).1).trans hk⟩)
        clear b5 r0 r1 r2 r3 r4 x3 x6 x7 d1 hlen
        gi_wp2
        exact ⟨HKO.out.from _, HSt.out, HI5.out, by rw [HE.out]; exact HL5.out, HX5.out⟩
      · have HE := Lib.hid (HY.out (by rw [HAt.out, hob]; simpa using h1))
        rw [hob] at C
        clear hob h1 HY HNo HAt
        gi_wp2_with fail
        refine ⟨trivial, ?_⟩
        try refine ⟨(fun h => by simp [Fence.wide] at h), ?_⟩
        refine (CallsIn.inRound _ (callsIn_wide.2 C)).mono ?_
        clear C
        rintro e w5 ⟨rfl, b5⟩
        have HI5 := Lib.hid (HI2.out.fresh b5)
        have HX5 := Lib.hid (HXX.out.fresh b5)
        have HSt := Lib.hid (Still.of (s := s) b5)
        have HKO := Lib.hid (show KeepsOthers W w5 from ⟨b5.size, fun k _ hk _ => (b5.block k (Array.getElem?_eq_some_iff.1 hk).1).trans hk⟩)
        have HBW5 := Lib.hid (show lb ≤ w5.heap.size from Nat.le_trans HBW.out b5.size)
        obtain ⟨v, hv, hrow, hvs, hls, hss⟩ := HL.out.fresh b5
        have hc := hv.cell
        have HVv := Lib.hid hv
        have HRow := Lib.hid hrow
        have HVS := Lib.hid hvs
        have HLS := Lib.hid hls
        clear hv hrow hvs hls hss b5 r0 r1 r2 r3 r4 x3 x6 x7 d1 hlen
        gi_wp2_with (gi_at_builtin; refine wpListIn_append_own _ rfl _ _ 28 rfl lb 3 i0 _ 1 8 Try.underlying28 hi hz0 hz1 hz2 rfl (by decide) v _ _ rfl (HRow.out.alloc _) ⟨w5.heap.size, 0, none⟩ 1 1 [.int .i64 (x : Int)] rfl rfl (by intro j u hu; cases j <;> simp at hu; subst hu; go_simp) (by intro u hu; simp at hu; subst hu; rfl) (by have := HKL.out; simp only [maxLen]; omega) (by have := HKL.out; omega) (by have := HBW5.out; simp; omega) ?_; intro v' w4 hown' hgrow _; obtain ⟨ao', cap', rfl⟩ := _root_.Go.Proofs.Ytllgcnljpehgeaa.ownShape hown'; have HA := Lib.hid (LB.append HVv.out HRow.out HBW5.out (Nat.le_refl _) HVS.out HLS.out hown' hgrow); clear hown' hgrow; have k4 := HA.out.1.cell; have f4 := HA.out.1.frozen)
        obtain ⟨_, a1, a2, a3, a4, a5, a6⟩ := HA.out
        rw [HE.out] at a1
        exact ⟨(HKO.out.from _).trans (a2 _), HSt.out.trans a3, ⟨HI5.out.1.trans (a4.mono (by have := HLB.out; have := HG3.out; omega)), a5 _ _ _ HI5.out.2.1 (by decide) (by decide), a6 _ _ HI5.out.2.2⟩, a1, (a4.block _ (by have := HLB.out; omega)).trans HX5.out.1, a5 _ _ _ HX5.out.2.1 (by decide) (by decide), a5 _ _ _ HX5.out.2.2 (by decide) (by decide)⟩
    · obtain rfl : k = 0 := by omega
      have HE := Lib.hid (HNo.out (by rw [HAt.out]; simp))
      have HL5 := Lib.hid HL.out.one
      clear C HY HNo HAt h1
      gi_wp2
      refine ⟨trivial, ?_⟩
      gi_wp2
      exact ⟨KeepsFrom.refl _ _, Still.refl _ _, HI2.out, by rw [HE.out]; exact HL5.out, HXX.out⟩
  case done =>
    rintro D W hD ⟨hI, ⟨v, hv, hrow⟩, hX⟩ hK
    have hc := hv.cell
    have x6 := hX.2.1.cell
    have c2 := hI.2.1.c2
    have HRow := Lib.hid hrow
    have HD := Lib.hid (show w.heap.size ≤ D by have := HLB.out; have := HG3.out; have := HN.out; have := HMW.out; have := HN6.out; have := HN7.out; have := HV.out; omega)
    have HI2 := Lib.hid hI
    clear hrow hI hv hD hX
    cases lost with
    | false =>
      gi_wp2
      refine ⟨by simp, .inl ⟨_, _, rfl, run_takeDeferred hK, ?_⟩⟩
      refine ⟨_, results_tmp rfl _ _ _, v, rfl, IntsNew.of (ownsRow_putObj HRow.out _ hK rfl) (HI2.out.1.trans (below_put HD.out HI2.out.1.size))⟩
    | true =>
      gi_wp2
      refine ⟨by simp, .inl ⟨_, _, rfl, run_takeDeferred hK, ?_⟩⟩
      refine ⟨_, results_tmp rfl _ _ _, .slice none 0 0, rfl, IntsNew.nil w (HI2.out.1.trans (below_put HD.out HI2.out.1.size))⟩
end

end Go.Proofs.Ytllgcnljpehgeaa.M2
