/-
  What Reach of package list tells, and that its row is its own. Conditions: a memory as Mem1 says.
-/
import Derived.Test.YtllgcnljpehgeaaAskR14m
namespace Go.Proofs.Ytllgcnljpehgeaa.M2
open Go.RowKit Go.Shelf

attribute [local go_sem] Oper.semAt_some

section
variable {w : World} {B p : Nat} {size st : Int} {zs : List Int} {ps : List Nat} {lost : Bool}

/-- What Reach tells, with its row. -/
def RowNew (w : World) (ps : List Nat) (lost : Bool) (e : Ending) (w' : World) : Prop := ∃ v, e = .returned (.tuple #[v, .bool (!lost)]) ∧ w'.ownsRow w.heap.size 3 1 v (if lost then [] else ints ps).length ((if lost then [] else ints ps).map (Value.int .i64)) ∧ Below w.heap.size w w'

set_option maxRecDepth 100000 in
set_option maxHeartbeats 4000000 in
theorem reachRow (h : Mem1 w B p size zs st) (hP : Path zs ps lost) : Calls Try.prog 14 #[.pointer (some ⟨p, 0, none⟩)] w (RowNew w ps lost) := by
  obtain ⟨i0, hi, hz0, hz1, hz2⟩ := info_parts infoInt
  have hmx : ps.length ≤ 200 := by have := h.most; have := hP.len; unfold mn at this; omega
  have HMX := Lib.hid hmx
  obtain ⟨W0, hW0⟩ : ∃ W, w.alloc (.cells #[.slice none 0 0] 28) = W := ⟨_, rfl⟩
  have HL0 := Lib.hid (show LB w.heap.size w.heap.size [] W0 by subst hW0; exact LB.new _ w)
  have HB0 := Lib.hid (show Below w.heap.size w W0 by subst hW0; exact (Below.refl _ _).alloc (Nat.le_refl _) _)
  have HS0 := Lib.hid (show W0.heap.size = w.heap.size + 1 by subst hW0; simp)
  have C := fromAny p W0
  have HP := Lib.hid hP
  have HM := Lib.hid h
  have HW0 := Lib.hid hW0
  have hmf : ∀ (fn : Fn) (first cap : Array Value) (w : World), (Instr.makeFunc fn first cap).run Try.prog w = .ok (.func fn first cap) w := fun _ _ _ _ => rfl
  clear h hP hmx hW0
  refine (callsIn_wide (n := 3)).1 ?_
  refine callsIn_of_wp_marks Try.func14 rfl trivial ?_ rfl
  simp only [Try.ntmps14, List.size_toArray, List.length_cons, List.length_nil, Nat.reduceAdd, Nat.reduceSub, Array.replicate_succ, Array.replicate_zero, List.push_toArray, List.append_toArray, List.nil_append, List.cons_append]
  gi_wp2_with fail
  rw [HW0.out]
  refine ⟨trivial, ?_⟩
  try refine ⟨(fun h => by simp [Fence.wide] at h), ?_⟩
  refine (callsIn_wide.2 C).mono ?_
  clear C
  rintro e W1 ⟨rfl, h1, h2, b1⟩
  have HI := Lib.hid (show IR w p (W0.heap.size + 1) W0.heap.size w.heap.size ps 0 W1 from ⟨⟨HB0.out.trans (b1.mono HB0.out.size), h1, h2⟩, HL0.out.fresh b1⟩)
  have hwbs := h1.lt
  have hwm : w.heap.size < W0.heap.size := by have := HS0.out; omega
  have hlt0 : w.heap.size < W1.heap.size := by omega
  clear h1 h2 b1 HL0 HB0 HW0
  generalize hmb : W0.heap.size = mb at *
  generalize hwb : mb + 1 = wb at *
  generalize hlb : w.heap.size = lb at *
  have HN := Lib.hid (show lb < mb ∧ mb < wb by omega)
  have HLB := Lib.hid hlb
  have Hwbs := Lib.hid hwbs
  clear hmb hwb HS0 hlb hwm
  gi_wp2
  refine' wpIn_rangeG (gf := 40) (rc := #[.pointer (some ⟨wb, 0, none⟩)]) (lb := #[]) rfl (by omega) rfl trivial (enters_of Try.func40 (by kernel_rfl) rfl) (encA zs ps) (fun _ => rfl) ps.length 0
    (WF wb mb) ?hF _ _ _ (alongSeq (3 - 1) HM.out HP.out ?s1 ?s2 ?s3) (IR w p wb mb lb ps) (IRb w p wb mb lb ps) (fun _ _ => False) (fun _ _ => False) (fun W => WI w p wb mb lost ps W ∧ LB w.heap.size lb (ints ps) W)
    (fun k A h => h.1) (fun k A A' h _ hw hb => ⟨hb, h.2.wrote hw (OffL.walk h.1.2.1 h.1.2.2)⟩) (fun A A' h hw he => ⟨he, by have := h.2.later hw (OffL.walk h.1.2.1 h.1.2.2); rwa [List.take_length] at this⟩)
    ?oI ?oIb (fun _ _ _ _ h _ _ => h) (fun _ _ _ _ h _ _ => h) ?oIe HI.out _ ?assign ?body ?done (fun _ _ _ _ _ h _ => h.elim) (fun _ _ _ _ _ h _ => h.elim)
  case hF => rintro b (rfl | rfl) <;> have := HN.out <;> have := Hwbs.out <;> omega
  case s1 => have := HN.out; have := HLB.out; omega
  case s2 => have := HN.out; have := HLB.out; omega
  case s3 => have := HN.out; omega
  case oI => exact fun k W W' row h hg hr => ⟨h.1.grown (by have := HN.out; have := Hwbs.out; omega) (by have := HLB.out; have := HN.out; have := Hwbs.out; omega) hg hr, h.2.grown hg (fun r e => (hr r e).2)⟩
  case oIb => exact fun s k W W' row h hg hr => ⟨h.1.grown (by have := HN.out; have := Hwbs.out; omega) (by have := HLB.out; have := HN.out; have := Hwbs.out; omega) hg hr, h.2.grown hg (fun r e => (hr r e).2)⟩
  case oIe => exact fun k W W' row h hg hr => ⟨h.1.grown (by have := HN.out; have := Hwbs.out; omega) (by have := HLB.out; have := HN.out; have := Hwbs.out; omega) hg hr, h.2.grown hg (fun r e => (hr r e).2)⟩
  case assign =>
    intro l k W K hK
    simp only [encA]
    gi_wp2
    exact hK
  case body =>
    rintro l k s W ⟨hI, v, hv, hrow, hvs, hls, hss⟩ hlt
    have hc := hv.cell
    have hx := ints_next hlt
    have hkl : (ints (ps.take k)).length ≤ 200 := by rw [ints_len, List.length_take]; have := HMX.out; omega
    have HKL := Lib.hid hkl
    simp only [List.getD_eq_getElem?_getD] at hx
    have HX := Lib.hid hx
    have HV := Lib.hid hv
    have HRow := Lib.hid hrow
    have HVS := Lib.hid hvs
    have HLS := Lib.hid hls
    have HI2 := Lib.hid hI
    have HBW := Lib.hid (show w.heap.size ≤ W.heap.size from hI.1.size)
    clear hv hrow hvs hls hss hI hx hkl hlt0 hwbs hlt
    generalize ps[k]?.getD 0 = x at *
    gi_wp2_with (gi_at_builtin; refine wpListIn_append_own _ rfl _ _ 28 rfl w.heap.size 3 i0 _ 1 8 Try.underlying28 hi hz0 hz1 hz2 rfl (by decide) v _ _ rfl (HRow.out.alloc _) ⟨W.heap.size, 0, none⟩ 1 1 [.int .i64 (x : Int)] rfl rfl (by intro j u hu; cases j <;> simp at hu; subst hu; go_simp) (by intro u hu; simp at hu; subst hu; rfl) (by have := HKL.out; simp only [maxLen]; omega) (by have := HKL.out; omega) (by have := HBW.out; simp; omega) ?_; intro v' w4 hown' hgrow _; obtain ⟨ao', cap', rfl⟩ := _root_.Go.Proofs.Ytllgcnljpehgeaa.ownShape hown'; have HA := Lib.hid (LB.append HV.out HRow.out HBW.out (Nat.le_of_eq HLB.out) HVS.out HLS.out hown' hgrow); clear hown' hgrow; have k4 := HA.out.1.cell; have f4 := HA.out.1.frozen)
    obtain ⟨_, a1, a2, a3, a4, a5, a6⟩ := HA.out
    rw [HX.out] at a1
    exact ⟨a2 _, a3, ⟨HI2.out.1.trans a4, a5 _ _ _ HI2.out.2.1 (by decide) (by decide), a6 _ _ HI2.out.2.2⟩, a1⟩
  case done =>
    rintro D W hD ⟨hI, v, hv, hrow⟩ hK
    have hc := hv.cell
    have c2 := hI.2.1.c2
    have HRow := Lib.hid hrow
    have HD := Lib.hid (show w.heap.size ≤ D by have := HLB.out; omega)
    have HI2 := Lib.hid hI
    clear hrow hI hv hD hlt0 hwbs
    cases lost with
    | false =>
      gi_wp2
      refine ⟨by simp, .inl ⟨_, _, rfl, run_takeDeferred hK, ?_⟩⟩
      refine ⟨_, results_tmp2 rfl _ _ _, v, rfl, ownsRow_putObj HRow.out _ hK rfl, HI2.out.1.trans (below_put HD.out HI2.out.1.size)⟩
    | true =>
      gi_wp2
      refine ⟨by simp, .inl ⟨_, _, rfl, run_takeDeferred hK, ?_⟩⟩
      refine ⟨_, results_tmp2 rfl _ _ _, _, rfl, World.ownsRow_nil _ _ _ _, HI2.out.1.trans (below_put HD.out HI2.out.1.size)⟩
end

end Go.Proofs.Ytllgcnljpehgeaa.M2
