/-
  What Sound of package list tells. Conditions: a memory as Mem1 says.
-/
import Derived.Test.YtllgcnljpehgeaaAskS14m
namespace Go.Proofs.Ytllgcnljpehgeaa.M2
open Go.RowKit Go.Shelf

attribute [local go_sem] Oper.semAt_some

theorem leave1 {F : Fence} {n : Nat} {P : Program} {fn : Func} {tmps : Array Value} {R : Ending → World → Prop} {D : Nat} {W : World} {v : Value} (hK : W.heap[D]? = some (.deferred (some [])))
    (h : ∀ Z, Z = W.putObj D (.deferred none) → (results fn tmps).run P Z = .ok v Z ∧ R (.returned v) Z) : LeavesInM F n P fn tmps R [{ target := .collected D, args := #[] }] .returning W := by
  refine ⟨by simp, .inl ⟨_, _, rfl, run_takeDeferred hK, ?_⟩⟩
  exact ⟨_, (h _ rfl).1, (h _ rfl).2⟩
theorem leave2 {F : Fence} {n : Nat} {P : Program} {fn : Func} {tmps : Array Value} {R : Ending → World → Prop} {D E : Nat} {W : World} {v : Value} (hK : W.heap[E]? = some (.deferred (some []))) (hD : W.heap[D]? = some (.deferred (some []))) (hne : D ≠ E)
    (h : ∀ Z, Z = (W.putObj E (.deferred none)).putObj D (.deferred none) → (results fn tmps).run P Z = .ok v Z ∧ R (.returned v) Z) : LeavesInM F n P fn tmps R [{ target := .collected E, args := #[] }, { target := .collected D, args := #[] }] .returning W := by
  refine ⟨by simp, .inl ⟨_, _, rfl, run_takeDeferred hK, ?_⟩⟩
  exact leave1 ((World.putObj_heap_other hne).trans hD) h
theorem boxP {W : World} {b D : Nat} {t : TypeId} {v : Value} {o : Obj} (h : Go.Boxed W b t v) (hne : b ≠ D) : Go.Boxed (W.putObj D o) b t v := (World.putObj_heap_other hne).trans h

/-- Whether one of the first k of the list is not active. -/
def idleK (zs : List Int) (ps : List Nat) (k : Nat) : Bool := (ps.take k).any (fun a => decide (zs.getD (a + 1) 0 = 0))
theorem idleK_next {zs : List Int} {ps : List Nat} {k : Nat} (h : k < ps.length) : idleK zs ps (k + 1) = (idleK zs ps k || decide (zs.getD (ps.getD k 0 + 1) 0 = 0)) := by
  unfold idleK
  rw [take_next h, List.any_append]
  simp
/-- Whether the record number j is active and off the list. -/
def goneB (zs : List Int) (ps : List Nat) (j : Nat) : Bool := !decide (3 + 5 * j ∈ ps) && (decide (zs.getD (3 + 5 * j + 1) 0 = 1) && !decide (zs.getD (3 + 5 * j) 0 = -1))
def goneK (zs : List Int) (ps : List Nat) (k : Nat) : Bool := (List.range k).any (goneB zs ps)
theorem goneK_next (zs : List Int) (ps : List Nat) (k : Nat) : goneK zs ps (k + 1) = (goneK zs ps k || goneB zs ps k) := by
  unfold goneK
  rw [List.range_succ, List.any_append]
  simp
theorem goneK_yes {zs : List Int} {ps : List Nat} {k n : Nat} (h : goneB zs ps k = true) (hk : k < n) : goneK zs ps n = true := by
  unfold goneK
  rw [List.any_eq_true]
  exact ⟨k, by simpa using hk, h⟩
/-- What is wrong. -/
def soundV (zs : List Int) (ps : List Nat) (lost : Bool) : Int := if lost then 30 else if idleK zs ps ps.length then 33 else if goneK zs ps (mn zs.length) then 31 else 0

section
variable {w W W' : World} {B p wb mb cb g2 g3 g4 D : Nat} {size st : Int} {zs : List Int} {ps : List Nat} {lost : Bool}

def BT (wb g2 g3 g4 : Nat) (e : Int) (i : Bool) (W : World) : Prop := Go.Boxed W g2 40 (.int .u16 e) ∧ Go.Boxed W g3 4 (.bool i) ∧ Go.Boxed W g4 69 (.pointer (some ⟨wb, 0, none⟩))
theorem BT.grown {e : Int} {i : Bool} {row : Option Nat} (h : BT wb g2 g3 g4 e i W) (hg : W.grownBy W' row) (hr : ∀ r, row = some r → ∃ o : Obj, W.heap[r]? = some o ∧ o.isCells = false) : BT wb g2 g3 g4 e i W' := ⟨boxG h.1 hg hr, boxG h.2.1 hg hr, boxG h.2.2 hg hr⟩
theorem BT.fresh {e : Int} {i : Bool} (h : BT wb g2 g3 g4 e i W) (hb : Below W.heap.size W W') : BT wb g2 g3 g4 e i W' := ⟨boxB h.1 hb, boxB h.2.1 hb, boxB h.2.2 hb⟩
theorem BT.wrote {e : Int} {i : Bool} {F : Nat → Prop} (h : BT wb g2 g3 g4 e i W) (hw : _root_.Go.Proofs.Ytllgcnljpehgeaa.Wrote F W W') (h3 : ¬ F g2) (h6 : ¬ F g3) (h7 : ¬ F g4) : BT wb g2 g3 g4 e i W' := ⟨boxW h.1 hw h3, boxW h.2.1 hw h6, boxW h.2.2 hw h7⟩

def IT (w : World) (p wb mb g2 g3 g4 : Nat) (zs : List Int) (ps : List Nat) (k : Nat) (W : World) : Prop := WI w p wb mb false (ps.take k) W ∧ BT wb g2 g3 g4 0 (idleK zs ps k) W
def ITb (w : World) (p wb mb g2 g3 g4 : Nat) (zs : List Int) (ps : List Nat) (k s : Nat) (W : World) : Prop := WI w p wb mb false (ps.take (k + 1)) W ∧ BT wb g2 g3 g4 0 (idleK zs ps k) W ∧ g3 < s
/-- The second range. -/
def IU (w : World) (p wb mb cb g2 g3 g4 D : Nat) (zs : List Int) (ps : List Nat) (k : Nat) (W : World) : Prop := WA w p cb W ∧ WI w p wb mb false ps W ∧ BT wb g2 g3 g4 0 (idleK zs ps ps.length) W ∧ W.heap[D]? = some (.deferred (some [])) ∧ goneK zs ps k = false
def IV (w : World) (g2 D : Nat) (zs : List Int) (ps : List Nat) (_ : Nat) (W : World) : Prop := Below w.heap.size w W ∧ Go.Boxed W g2 40 (.int .u16 31) ∧ W.heap[D]? = some (.deferred (some [])) ∧ goneK zs ps (mn zs.length) = true

theorem IU.fresh {k : Nat} (h : IU w p wb mb cb g2 g3 g4 D zs ps k W) (hb : Below W.heap.size W W') : IU w p wb mb cb g2 g3 g4 D zs ps k W' := ⟨h.1.fresh hb, h.2.1.fresh hb, h.2.2.1.fresh hb, (hb.block D (lt_of_block h.2.2.2.1)).trans h.2.2.2.1, h.2.2.2.2⟩
theorem IU.grown {k n₀ : Nat} {row : Option Nat} (h : IU w p wb mb cb g2 g3 g4 D zs ps k W) (h1 : w.heap.size ≤ n₀) (h2 : mb < n₀) (h3 : D < n₀) (hg : W.grownBy W' row) (hr : ∀ r, row = some r → n₀ ≤ r ∧ ∃ o : Obj, W.heap[r]? = some o ∧ o.isCells = false) : IU w p wb mb cb g2 g3 g4 D zs ps k W' :=
  ⟨h.1.grown h1 hg hr, h.2.1.grown h2 h1 hg hr, h.2.2.1.grown hg (fun r e => (hr r e).2), (hg.block D (lt_of_block h.2.2.2.1) (fun e => by have := (hr D e.symm).1; omega)).trans h.2.2.2.1, h.2.2.2.2⟩

set_option maxRecDepth 100000 in
set_option maxHeartbeats 8000000 in
theorem soundAny (h : Mem1 w B p size zs st) (hP : Path zs ps lost) : Calls Try.prog 16 #[.pointer (some ⟨p, 0, none⟩)] w fun e w' => e = .returned (.int .u16 (soundV zs ps lost)) ∧ Below w.heap.size w w' := by
  have HMX := Lib.hid (show mn zs.length ≤ 200 by have := h.most; unfold mn; omega)
  obtain ⟨W0, hW0⟩ : ∃ W, (w.alloc (.cells #[.int .u16 0] 40)).alloc (.cells #[.bool false] 4) = W := ⟨_, rfl⟩
  have HA0 := Lib.hid (show Go.Boxed W0 w.heap.size 40 (.int .u16 0) by subst hW0; exact (Go.Boxed.new _ _ _).alloc _)
  have HI0 := Lib.hid (show Go.Boxed W0 (w.heap.size + 1) 4 (.bool false) by subst hW0; have := Go.Boxed.new (w.alloc (.cells #[.int .u16 0] 40)) 4 (.bool false); simpa using this)
  have HB0 := Lib.hid (show Below w.heap.size w W0 by subst hW0; exact ((Below.refl _ _).alloc (Nat.le_refl _) _).alloc (by simp) _)
  have HS0 := Lib.hid (show W0.heap.size = w.heap.size + 2 by subst hW0; simp)
  have C := fromAny p W0
  have HP := Lib.hid hP
  have HM := Lib.hid h
  have HW0 := Lib.hid hW0
  have hmf : ∀ (fn : Fn) (first cap : Array Value) (w : World), (Instr.makeFunc fn first cap).run Try.prog w = .ok (.func fn first cap) w := fun _ _ _ _ => rfl
  clear h hP hW0
  refine (callsIn_wide (n := 3)).1 ?_
  refine callsIn_of_wp_marks Try.func16 rfl trivial ?_ rfl
  simp only [Try.ntmps16, List.size_toArray, List.length_cons, List.length_nil, Nat.reduceAdd, Nat.reduceSub, Array.replicate_succ, Array.replicate_zero, List.push_toArray, List.append_toArray, List.nil_append, List.cons_append]
  gi_wp2_with fail
  rw [HW0.out]
  refine ⟨trivial, ?_⟩
  try refine ⟨(fun h => by simp [Fence.wide] at h), ?_⟩
  refine (callsIn_wide.2 C).mono ?_
  clear C
  rintro e W1 ⟨rfl, h1, h2, b1⟩
  have HI1 := Lib.hid (show WI w p (W0.heap.size + 1) W0.heap.size false [] W1 from ⟨HB0.out.trans (b1.mono HB0.out.size), h1, h2⟩)
  have HA1 := Lib.hid (boxB HA0.out b1)
  have HJ1 := Lib.hid (boxB HI0.out b1)
  have HN := Lib.hid (show w.heap.size + 1 < W0.heap.size by have := HS0.out; omega)
  clear h1 h2 b1 HI0 HB0 HW0 HA0 HS0
  generalize hmb : W0.heap.size = mb at *
  generalize hwb : mb + 1 = wb at *
  generalize hg2 : w.heap.size = g2 at *
  generalize hg3 : g2 + 1 = g3 at *
  have HMW := Lib.hid (show mb < wb by omega)
  have HG2 := Lib.hid hg2
  have HG3 := Lib.hid hg3
  clear hmb hwb hg2 hg3
  obtain ⟨V1, hV1⟩ : ∃ V, W1.alloc (.cells #[.pointer (some ⟨wb, 0, none⟩)] 69) = V := ⟨_, rfl⟩
  have hb1 : Below W1.heap.size W1 V1 := by subst hV1; exact (Below.refl _ _).alloc (Nat.le_refl _) _
  have HI := Lib.hid (show IT w p wb mb g2 g3 W1.heap.size zs ps 0 V1 from ⟨HI1.out.fresh hb1, boxB HA1.out hb1, boxB HJ1.out hb1, by subst hV1; exact Go.Boxed.new _ _ _⟩)
  have HN6 := Lib.hid (show wb < W1.heap.size from HI1.out.2.1.lt)
  have hs1 : V1.heap.size = W1.heap.size + 1 := by subst hV1; simp
  have HV1 := Lib.hid hV1
  have hw1 := HI1.out.2.1.lt
  clear hV1 hb1 HI1 HA1 HJ1
  gi_wp2
  rw [HV1.out]
  clear HV1 hw1
  generalize W1.heap.size = g4 at *
  have HV := Lib.hid hs1
  clear hs1
  refine' wpIn_rangeB (gf := 40) (rc := #[.pointer (some ⟨wb, 0, none⟩)]) (lb := #[]) rfl (by omega) rfl trivial (enters_of Try.func40 (by kernel_rfl) rfl) (encA zs ps) (fun _ => rfl) ps.length 0
    (WF wb mb) ?hF _ _ _ (alongSeq (3 - 1) HM.out HP.out ?s1 ?s2 ?s3) (IT w p wb mb g2 g3 g4 zs ps) (ITb w p wb mb g2 g3 g4 zs ps) (fun _ _ => False) (fun _ _ => False) (fun W => WI w p wb mb lost ps W ∧ BT wb g2 g3 g4 0 (idleK zs ps ps.length) W)
    (fun k A h => h.1) (fun k A A' h _ hw hb => ⟨hb, h.2.wrote hw ?n3 ?n6 ?n7, h.2.2.1.lt⟩) (fun A A' h hw he => ⟨he, h.2.wrote hw ?m3 ?m6 ?m7⟩)
    ?oI ?oIb (fun _ _ _ _ h _ _ => h) (fun _ _ _ _ h _ _ => h) ?oIe HI.out (fun k => .cells #[.int .i64 (zs.getD (ps.getD k 0) 0), .int .i64 (zs.getD (ps.getD k 0 + 1) 0), .int .i64 (zs.getD (ps.getD k 0 + 2) 0), .int .i64 (zs.getD (ps.getD k 0 + 3) 0), .int .i64 (zs.getD (ps.getD k 0 + 4) 0)] 76) _ ?assign ?body ?done (fun _ _ _ _ _ h _ => h.elim) (fun _ _ _ _ _ h _ => h.elim)
  case hF => rintro b (rfl | rfl) <;> have := HMW.out <;> have := HN6.out <;> have := HV.out <;> omega
  case s1 => have := HN.out; have := HMW.out; have := HG2.out; have := HG3.out; omega
  case s2 => have := HN.out; have := HMW.out; have := HG2.out; have := HG3.out; omega
  case s3 => have := HMW.out; omega
  case n3 | m3 => rintro (e | e) <;> have := HN.out <;> have := HMW.out <;> have := HG3.out <;> omega
  case n6 | m6 => rintro (e | e) <;> have := HN.out <;> have := HMW.out <;> have := HG3.out <;> omega
  case n7 | m7 => rintro (e | e) <;> have := HN6.out <;> have := HMW.out <;> omega
  case oI => exact fun k W W' row h hg hr => ⟨h.1.grown (by have := HMW.out; have := HN6.out; have := HV.out; omega) (by have := HG2.out; have := HG3.out; have := HN.out; have := HMW.out; have := HN6.out; have := HV.out; omega) hg hr, h.2.grown hg (fun r e => (hr r e).2)⟩
  case oIb => exact fun s k W W' row h hg hr => ⟨h.1.grown (by have := HMW.out; have := HN6.out; have := HV.out; omega) (by have := HG2.out; have := HG3.out; have := HN.out; have := HMW.out; have := HN6.out; have := HV.out; omega) hg hr, h.2.1.grown hg (fun r e => (hr r e).2), h.2.2⟩
  case oIe => exact fun k W W' row h hg hr => ⟨h.1.grown (by have := HMW.out; have := HN6.out; have := HV.out; omega) (by have := HG2.out; have := HG3.out; have := HN.out; have := HMW.out; have := HN6.out; have := HV.out; omega) hg hr, h.2.grown hg (fun r e => (hr r e).2)⟩
  case assign =>
    intro l k W K hK
    simp only [encA, recV]
    simp only [List.getD_eq_getElem?_getD] at hK
    gi_wp2
    generalize W.heap.size = b at hK ⊢
    exact hK
  case body =>
    rintro l k s b W ⟨hI, hX, hs⟩ hlt hsb hbx
    have hnx := idleK_next (zs := zs) hlt
    simp only [List.getD_eq_getElem?_getD] at hnx hbx
    generalize ps[k]?.getD 0 = x at *
    generalize zs[x]?.getD 0 = z0 at *
    generalize zs[x + 1]?.getD 0 = z1 at *
    generalize zs[x + 2]?.getD 0 = z2 at *
    generalize zs[x + 3]?.getD 0 = z3 at *
    generalize zs[x + 4]?.getD 0 = z4 at *
    have hb5 : B5 W b 76 z0 z1 z2 z3 z4 := hbx
    have r1 := hb5.c1
    have HI2 := Lib.hid hI
    have HXX := Lib.hid hX
    have x3 := hX.2.1.cell
    have f3 := hX.2.1.frozen
    have HNX := Lib.hid hnx
    have HSS := Lib.hid hs
    clear hI hX hlt hbx hb5 hsb hnx hs
    generalize hik : idleK zs ps k = ik at *
    have fin : ∀ o : Bool, idleK zs ps (k + 1) = o → roundPost V1.heap.size 0 (IT w p wb mb g2 g3 g4 zs ps) (fun _ _ => False) (fun _ _ => False) k s W .normal { tmps := #[], defers := [] } (W.setCell ⟨g3, 0, none⟩ (.bool o)) := by
      intro o ho
      refine ⟨(KeepsOthers.setCell _ _ _).from _, ⟨by simp [World.setCell], fun c h1 h2 => Below.heap_setCell _ _ _ _ (by have := HSS.out; simp; omega)⟩, ⟨HI2.out.1.setCell (by have := HG2.out; have := HG3.out; simp; omega) _, (Below.heap_setCell _ _ _ _ (by have := HN.out; have := HMW.out; have := HG3.out; simp; omega)).trans HI2.out.2.1, (Below.heap_setCell _ _ _ _ (by have := HN.out; have := HMW.out; have := HG3.out; simp; omega)).trans HI2.out.2.2⟩, ?_, ?_, ?_⟩
      · exact (Below.heap_setCell _ _ _ _ (by have := HG3.out; simp; omega)).trans HXX.out.1
      · rw [ho]; exact HXX.out.2.1.set _
      · exact (Below.heap_setCell _ _ _ _ (by have := HN.out; have := HMW.out; have := HG3.out; have := HN6.out; simp; omega)).trans HXX.out.2.2
    have HFin := Lib.hid fin
    clear fin
    cases ik with
    | true =>
      have HE := Lib.hid (show idleK zs ps (k + 1) = true by rw [HNX.out]; rfl)
      clear HNX hik
      gi_wp2
      exact HFin.out _ HE.out
    | false =>
      by_cases hz : z1 = 0
      · have HE := Lib.hid (show idleK zs ps (k + 1) = true by rw [HNX.out, hz]; rfl)
        subst hz
        clear HNX hik
        gi_wp2
        exact HFin.out _ HE.out
      · have HE := Lib.hid (show idleK zs ps (k + 1) = false by rw [HNX.out]; simpa using hz)
        have hz : (z1 == 0) = false := by simpa using hz
        clear HNX hik
        gi_wp2
        exact HFin.out _ HE.out
  case done =>
    rintro D W hD ⟨hI, hX⟩ hK
    have x2 := hX.1.cell
    have f2 := hX.1.frozen
    have x3 := hX.2.1.cell
    have x4 := hX.2.2.cell
    have c2 := hI.2.1.c2
    have HD := Lib.hid (show w.heap.size ≤ D by have := HG2.out; have := HG3.out; have := HN.out; have := HMW.out; have := HN6.out; have := HV.out; omega)
    have HGD := Lib.hid (show g4 < D by have := HV.out; omega)
    have HDW := Lib.hid (lt_of_block hK)
    have HI2 := Lib.hid hI
    have HXX := Lib.hid hX
    clear hI hD hX
    have ret1 : ∀ x : Int, Go.Boxed (W.setCell ⟨g2, 0, none⟩ (.int .u16 x)) g2 40 (.int .u16 x) ∧ (W.setCell ⟨g2, 0, none⟩ (.int .u16 x)).heap[D]? = some (.deferred (some [])) ∧ Below w.heap.size w (W.setCell ⟨g2, 0, none⟩ (.int .u16 x)) := fun x =>
      ⟨HXX.out.1.set _, (Below.heap_setCell _ _ _ _ (by have := HGD.out; have := HG3.out; have := HN.out; have := HMW.out; have := HN6.out; simp; omega)).trans hK, HI2.out.1.setCell (by have := HG2.out; simp; omega) _⟩
    have HRet := Lib.hid ret1
    have HKD := Lib.hid hK
    clear ret1 hK
    cases lost with
    | true =>
      gi_wp2
      obtain ⟨y1, y2, y3⟩ := HRet.out 30
      refine leave1 (v := .int .u16 30) y2 fun Z hZ => ?_
      have c : Z.cell? ⟨g2, 0, none⟩ = some (.int .u16 30) := by subst hZ; exact (boxP y1 (by have := HGD.out; have := HG3.out; have := HN.out; have := HMW.out; have := HN6.out; omega)).cell
      refine ⟨by simp [results, Try.results16, go_sem, c], by simp [soundV], ?_⟩
      subst hZ
      exact y3.trans (below_put HD.out y3.size)
    | false =>
      generalize hik : idleK zs ps ps.length = ik at *
      cases ik with
      | true =>
        gi_wp2
        obtain ⟨y1, y2, y3⟩ := HRet.out 33
        refine leave1 (v := .int .u16 33) y2 fun Z hZ => ?_
        have c : Z.cell? ⟨g2, 0, none⟩ = some (.int .u16 33) := by subst hZ; exact (boxP y1 (by have := HGD.out; have := HG3.out; have := HN.out; have := HMW.out; have := HN6.out; omega)).cell
        refine ⟨by simp [results, Try.results16, go_sem, c], by simp [soundV, hik], ?_⟩
        subst hZ
        exact y3.trans (below_put HD.out y3.size)
      | false =>
        have C := allAny p W
        have HIK := Lib.hid hik
        clear hik HRet
        gi_wp2_with fail
        refine ⟨trivial, ?_⟩
        try refine ⟨(fun h => by simp [Fence.wide] at h), ?_⟩
        refine (callsIn_wide.2 C).mono ?_
        clear C x2 f2 x3 x4 c2
        rintro e W4 ⟨rfl, h4, b4⟩
        have HU := Lib.hid (show IU w p wb mb W.heap.size g2 g3 g4 D zs ps 0 W4 from ⟨⟨HI2.out.1.trans (b4.mono HI2.out.1.size), h4⟩, HI2.out.fresh b4, by rw [HIK.out]; exact HXX.out.fresh b4, (b4.block D HDW.out).trans HKD.out, by simp [goneK]⟩)
        have HCW := Lib.hid (lt_of_block h4)
        clear h4 b4
        generalize W.heap.size = cb at *
        gi_wp2
        refine' wpIn_rangeB (gf := 60) (rc := #[]) (lb := #[.pointer (some ⟨cb, 0, none⟩)]) rfl (by omega) rfl trivial (enters_of Try.func60 (by kernel_rfl) rfl) (encR zs) (fun _ => rfl) (mn zs.length) 0
          NoF (fun _ h => h.elim) _ _ _ (allSeq (3 - 1) HM.out) (IU w p wb mb cb g2 g3 g4 D zs ps) (fun k _ => IU w p wb mb cb g2 g3 g4 D zs ps k) (fun _ _ => False) (IV w g2 D zs ps) (IU w p wb mb cb g2 g3 g4 D zs ps (mn zs.length))
          (fun k A h => h.1) (fun k A A' h _ hw _ => h.fresh (hw.below (Nat.le_refl _) (fun _ h => h.elim))) (fun A A' h hw _ => h.fresh (hw.below (Nat.le_refl _) (fun _ h => h.elim)))
          ?oU ?oUb (fun _ _ _ _ h _ _ => h) ?oV ?oUe HU.out (fun k => .cells #[.int .i64 (zs.getD (3 + 5 * k) 0), .int .i64 (zs.getD (3 + 5 * k + 1) 0), .int .i64 (zs.getD (3 + 5 * k + 2) 0), .int .i64 (zs.getD (3 + 5 * k + 3) 0), .int .i64 (zs.getD (3 + 5 * k + 4) 0)] 76) _ ?assignU ?bodyU ?doneU (fun _ _ _ _ _ h _ => h.elim) ?retU
        case oU => exact fun k W W' row h hg hr => h.grown (by have := HGD.out; have := HG2.out; have := HG3.out; have := HN.out; have := HMW.out; have := HN6.out; have := HDW.out; have := HCW.out; omega) (by have := HGD.out; have := HG2.out; have := HG3.out; have := HN.out; have := HMW.out; have := HN6.out; have := HDW.out; have := HCW.out; omega) (by have := HGD.out; have := HG2.out; have := HG3.out; have := HN.out; have := HMW.out; have := HN6.out; have := HDW.out; have := HCW.out; omega) hg hr
        case oUb => exact fun _ k W W' row h hg hr => h.grown (by have := HGD.out; have := HG2.out; have := HG3.out; have := HN.out; have := HMW.out; have := HN6.out; have := HDW.out; have := HCW.out; omega) (by have := HGD.out; have := HG2.out; have := HG3.out; have := HN.out; have := HMW.out; have := HN6.out; have := HDW.out; have := HCW.out; omega) (by have := HGD.out; have := HG2.out; have := HG3.out; have := HN.out; have := HMW.out; have := HN6.out; have := HDW.out; have := HCW.out; omega) hg hr
        case oUe => exact fun _ W W' row h hg hr => h.grown (by have := HGD.out; have := HG2.out; have := HG3.out; have := HN.out; have := HMW.out; have := HN6.out; have := HDW.out; have := HCW.out; omega) (by have := HGD.out; have := HG2.out; have := HG3.out; have := HN.out; have := HMW.out; have := HN6.out; have := HDW.out; have := HCW.out; omega) (by have := HGD.out; have := HG2.out; have := HG3.out; have := HN.out; have := HMW.out; have := HN6.out; have := HDW.out; have := HCW.out; omega) hg hr
        case oV =>
          intro k W W' row h hg hr
          refine ⟨h.1.grown hg h.1.size (fun r e => by have := (hr r e).1; have := HGD.out; have := HG2.out; have := HG3.out; have := HN.out; have := HMW.out; have := HN6.out; have := HDW.out; have := HCW.out; omega), boxG h.2.1 hg (fun r e => (hr r e).2), (hg.block D (lt_of_block h.2.2.1) (fun e => by have := (hr D e.symm).1; have := HGD.out; have := HG2.out; have := HG3.out; have := HN.out; have := HMW.out; have := HN6.out; have := HDW.out; have := HCW.out; omega)).trans h.2.2.1, h.2.2.2⟩
        case assignU =>
          intro l k W K hK
          simp only [encR, recV]
          simp only [List.getD_eq_getElem?_getD] at hK
          gi_wp2
          generalize W.heap.size = b at hK ⊢
          exact hK
        case bodyU =>
          rintro l k s b W ⟨hA, hI, hX, hM, hG⟩ hlt hsb hbx
          have hgn := goneK_next zs ps k
          have hgy := @goneK_yes zs ps k (mn zs.length)
          have hgb : goneB zs ps k = (!decide (3 + 5 * k ∈ ps) && (decide (zs.getD (3 + 5 * k + 1) 0 = 1) && !decide (zs.getD (3 + 5 * k) 0 = -1))) := rfl
          have hmet : (∃ i, Instr.findNow (.int .i64) (.int .i64 (3 + 5 * (k : Int))) (metE ps).toList 0 = some (some (i, .bool true))) ∧ 3 + 5 * k ∈ ps ∨ Instr.findNow (.int .i64) (.int .i64 (3 + 5 * (k : Int))) (metE ps).toList 0 = some none ∧ 3 + 5 * k ∉ ps := by
            by_cases hm : 3 + 5 * k ∈ ps
            · exact .inl ⟨met_some ⟨_, hm, by omega⟩, hm⟩
            · exact .inr ⟨met_none (fun a ha e => hm (by have : a = 3 + 5 * k := by omega
                                                         subst this; exact ha)), hm⟩
          generalize zs.getD (3 + 5 * k) 0 = z0 at *
          generalize zs.getD (3 + 5 * k + 1) 0 = z1 at *
          generalize zs.getD (3 + 5 * k + 2) 0 = z2 at *
          generalize zs.getD (3 + 5 * k + 3) 0 = z3 at *
          generalize zs.getD (3 + 5 * k + 4) 0 = z4 at *
          have hb5 : B5 W b 76 z0 z1 z2 z3 z4 := hbx
          have r0 := hb5.c0
          have r1 := hb5.c1
          have x2 := hX.1.cell
          have f2 := hX.1.frozen
          have x4 := hX.2.2.cell
          have d1 := hI.2.1.c1
          have HU2 := Lib.hid (show goneB zs ps k = false → IU w p wb mb cb g2 g3 g4 D zs ps (k + 1) W from fun hgb => ⟨hA, hI, hX, hM, by rw [hgn, hG, hgb]; rfl⟩)
          have HV2 := Lib.hid (show goneB zs ps k = true → IV w g2 D zs ps k (W.setCell ⟨g2, 0, none⟩ (.int .u16 31)) from fun hgb => ⟨hI.1.setCell (by have := HGD.out; have := HG2.out; have := HG3.out; have := HN.out; have := HMW.out; have := HN6.out; have := HDW.out; have := HCW.out; simp; omega) _, hX.1.set _, (Below.heap_setCell _ _ _ _ (by have := HGD.out; have := HG2.out; have := HG3.out; have := HN.out; have := HMW.out; have := HN6.out; have := HDW.out; have := HCW.out; simp; omega)).trans hM, hgy hgb hlt⟩)
          have HMap := Lib.hid hI.2.2
          have HGB := Lib.hid hgb
          clear hA hI hX hM hG hgn hgy hlt hsb hbx hb5 hgb
          generalize 3 + 5 * (k : Int) = a at *
          rcases hmet with ⟨⟨i, hi⟩, hm⟩ | ⟨hi, hm⟩
          · have hlk : (Instr.lookup 72 (.map (some mb)) (.int .i64 a) false).run Try.prog W = .ok (.bool true) W :=
              run_lookIn _ _ 3 4 mb (metE ps) a false i (.bool true) Try.underlying72 Try.underlying3 HMap.out hi
            have HE := Lib.hid (HU2.out (by rw [HGB.out]; simp [hm]))
            clear hi hm HU2 HV2 HGB
            gi_wp2
            exact ⟨KeepsFrom.refl _ _, Still.refl _ _, HE.out⟩
          · have hlk : (Instr.lookup 72 (.map (some mb)) (.int .i64 a) false).run Try.prog W = .ok (.bool false) W :=
              run_lookOut _ _ 3 4 mb (metE ps) a false (.bool false) Try.underlying72 Try.underlying3 HMap.out (zeroBool _) hi
            by_cases h1 : z1 = 1
            · by_cases h0 : z0 = -1
              · have HE := Lib.hid (HU2.out (by rw [HGB.out, h0]; simp))
                subst h1 h0
                clear hi hm HU2 HV2 HGB
                gi_wp2
                exact ⟨KeepsFrom.refl _ _, Still.refl _ _, HE.out⟩
              · have HE := Lib.hid (HV2.out (by rw [HGB.out]; simp [hm, h1, h0]))
                have h0 : (z0 != -1) = true := by simpa using h0
                subst h1
                clear hi hm HU2 HV2 HGB
                gi_wp2
                exact ⟨(KeepsOthers.setCell _ _ _).from _, HE.out⟩
            · have HE := Lib.hid (HU2.out (by rw [HGB.out]; simp [h1]))
              have h1 : (z1 == 1) = false := by simpa using h1
              clear hi hm HU2 HV2 HGB
              gi_wp2
              exact ⟨KeepsFrom.refl _ _, Still.refl _ _, HE.out⟩
        case doneU =>
          rintro E W hE ⟨hA, hI, hX, hM, hG⟩ hK
          have x2 := hX.1.cell
          have f2 := hX.1.frozen
          have HRet := Lib.hid (show Go.Boxed (W.setCell ⟨g2, 0, none⟩ (.int .u16 0)) g2 40 (.int .u16 0) ∧ (W.setCell ⟨g2, 0, none⟩ (.int .u16 0)).heap[E]? = some (.deferred (some [])) ∧ (W.setCell ⟨g2, 0, none⟩ (.int .u16 0)).heap[D]? = some (.deferred (some [])) ∧ Below w.heap.size w (W.setCell ⟨g2, 0, none⟩ (.int .u16 0)) from
            ⟨hX.1.set _, (Below.heap_setCell _ _ _ _ (by have := HGD.out; have := HG2.out; have := HG3.out; have := HN.out; have := HMW.out; have := HN6.out; have := HDW.out; have := HCW.out; simp; omega)).trans hK, (Below.heap_setCell _ _ _ _ (by have := HGD.out; have := HG2.out; have := HG3.out; have := HN.out; have := HMW.out; have := HN6.out; have := HDW.out; have := HCW.out; simp; omega)).trans hM, hI.1.setCell (by have := HGD.out; have := HG2.out; have := HG3.out; have := HN.out; have := HMW.out; have := HN6.out; have := HDW.out; have := HCW.out; simp; omega) _⟩)
          have HE := Lib.hid (show D < E by have := HGD.out; have := HG2.out; have := HG3.out; have := HN.out; have := HMW.out; have := HN6.out; have := HDW.out; have := HCW.out; omega)
          have HGo := Lib.hid hG
          clear hA hI hX hM hG hE hK
          gi_wp2
          obtain ⟨y1, y2, y3, y4⟩ := HRet.out
          refine leave2 (v := .int .u16 0) y2 y3 (by have := HE.out; omega) fun Z hZ => ?_
          have c : Z.cell? ⟨g2, 0, none⟩ = some (.int .u16 0) := by subst hZ; exact (boxP (boxP y1 (by have := HE.out; have := HGD.out; have := HG2.out; have := HG3.out; have := HN.out; have := HMW.out; have := HN6.out; have := HDW.out; have := HCW.out; omega)) (by have := HGD.out; have := HG2.out; have := HG3.out; have := HN.out; have := HMW.out; have := HN6.out; have := HDW.out; have := HCW.out; omega)).cell
          refine ⟨by simp [results, Try.results16, go_sem, c], by simp [soundV, HIK.out, HGo.out], ?_⟩
          subst hZ
          have hsz : w.heap.size ≤ (W.setCell ⟨g2, 0, none⟩ (.int .u16 0)).heap.size := y4.size
          exact y4.trans ((below_put (D := E) (o' := .deferred none) (by have := HE.out; have := HGD.out; have := HG2.out; have := HG3.out; have := HN.out; have := HMW.out; have := HN6.out; have := HDW.out; have := HCW.out; omega) hsz).trans (below_put HD.out (by simpa [World.putObj] using hsz)))
        case retU =>
          rintro E k W hE hk ⟨hB, hX, hM, hG⟩ hK
          have HB := Lib.hid hB
          have HX := Lib.hid hX
          have HMk := Lib.hid hM
          have HKE := Lib.hid hK
          have HE := Lib.hid (show D < E by have := HGD.out; have := HG2.out; have := HG3.out; have := HN.out; have := HMW.out; have := HN6.out; have := HDW.out; have := HCW.out; omega)
          have HGo := Lib.hid hG
          clear hB hX hM hG hE hK hk
          gi_wp2
          refine leave2 (v := .int .u16 31) HKE.out HMk.out (by have := HE.out; omega) fun Z hZ => ?_
          have c : Z.cell? ⟨g2, 0, none⟩ = some (.int .u16 31) := by subst hZ; exact (boxP (boxP HX.out (by have := HE.out; have := HGD.out; have := HG2.out; have := HG3.out; have := HN.out; have := HMW.out; have := HN6.out; have := HDW.out; have := HCW.out; omega)) (by have := HGD.out; have := HG2.out; have := HG3.out; have := HN.out; have := HMW.out; have := HN6.out; have := HDW.out; have := HCW.out; omega)).cell
          refine ⟨by simp [results, Try.results16, go_sem, c], by simp [soundV, HIK.out, HGo.out], ?_⟩
          subst hZ
          exact HB.out.trans ((below_put (D := E) (o' := .deferred none) (by have := HE.out; have := HGD.out; have := HG2.out; have := HG3.out; have := HN.out; have := HMW.out; have := HN6.out; have := HDW.out; have := HCW.out; omega) HB.out.size).trans (below_put HD.out (by simpa [World.putObj] using HB.out.size)))
end

end Go.Proofs.Ytllgcnljpehgeaa.M2
