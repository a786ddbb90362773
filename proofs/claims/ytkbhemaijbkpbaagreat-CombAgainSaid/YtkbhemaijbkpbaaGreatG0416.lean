/-
  A range over a closure whose rounds may say 'no more': N rounds at most, one behind the other; the marks that such ranges leave for the function's end; a region that draws its order, in a round. Conditions: outside of any other round; no Go function is looked at here. What behind of package skip tells a range: one tower after another on a level, till there is none or a round says 'no more'. Conditions: a chain as Ch says, no block of it twice.
-/
import Derived.Test.YtkbhemaijbkpbaaGreatG0316
import Derived.RangeFuncNested
import Derived.RangeFuncBound
import Derived.RangeFuncCalls
import Derived.RangeFuncLeaves
import Derived.RangeFuncBox
import Derived.Shelf.Abstract
import Derived.Shelf.RegionOpen
import Derived.OwnWalkIn
import Derived.TacticsInMore
import Derived.LoopNIn
import Derived.LoopIn
import Derived.Maps.AppendAt
namespace Go.Proofs.YtkbhemaijbkpbaaGreat
open Go.RowKit Go.Shelf

/-- What a closure tells that goes through N things, the thing number k being told as encs k, and that stops where a round says so: whatever J is kept by drawing and by each round stands behind it. -/
def StopsOf (F : Fence) (n : Nat) (P : Program) (gf : Nat) (lb : Array Value) (encs : Nat → Array Value) (N : Nat) (I : Nat → World → Prop) : Prop :=
  ∀ (l : Nat) (J Jx : Nat → World → Prop) (W : World), (∀ k A, J k A → I k A) → (∀ k A q, J k A → J k (A.drewN q)) →
    (∀ k A, J k A → k < N → YieldAt F (n - 1) P l (encs k) A fun e A' => (e = .returned (.bool true) ∧ J (k + 1) A') ∨ (e = .returned (.bool false) ∧ Jx k A')) → J 0 W →
    CallsIn F n P gf (#[.func (.yield l) #[] #[]] ++ lb) W fun e W' => (∃ v, e = .returned v) ∧ (J N W' ∨ ∃ k, k < N ∧ Jx k W')

/-- The two blocks that the loop itself has laid. -/
def LoopAt (D : Nat) (o : Obj) (W : World) : Prop := W.heap[D + 1]? = some o ∧ W.heap[D]? = some (.deferred (some []))

/-- How the body of a round may be left: it goes on, or breaks. -/
def roundPost (B id : Nat) (I Ix : Nat → World → Prop) (k : Nat) (W : World) : Exit → Act → World → Prop
  | .normal, _, W' => KeepsFrom B W W' ∧ I (k + 1) W'
  | .exit i, _, W' => i = id ∧ KeepsFrom B W W' ∧ Ix k W'
  | _, _, _ => False

theorem wpIn_rangeStops {F : Fence} {n : Nat} {P : Program} {g : Operand} {ps : Array Tmp} {assign body : Code} {Q : Exit → Act → World → Prop} {a : Act} {w : World}
    (hro : F.round = none) (h1 : 1 ≤ n) {gf : Nat} {lb : Array Value} (hg : a.eval g = .func (.func gf) #[] lb) (hFg : F.fn gf) (eg : ∀ args w, (callFunc gf args).run P w = .ok (.enter gf args) w)
    (encs : Nat → Array Value) (hps : ∀ x, (encs x).size = ps.size) (N id : Nat) (I Ix : Nat → World → Prop) (hseq : StopsOf F (n - 1) P gf lb encs N I) (hI : OwnFrom w.heap.size I) (hIx : OwnFrom w.heap.size Ix) (h0 : I 0 w) (a₁ : Nat → Act)
    (hassign : ∀ (l k : Nat) (W : World) (K : Act → World → Prop), K (a₁ k) W →
      assign.wpIn (F.inRound l) (n - 1 - 1) P (Exit.then K (fun _ _ _ => False)) { tmps := (ps.zip (encs k)).foldl (fun t (p, v) => t.setIfInBounds p v) a.tmps, defers := [] } W)
    (hbody : ∀ (l k : Nat) (W : World), I k W → k < N → body.wpIn (F.inRound l) (n - 1 - 1) P (roundPost w.heap.size id I Ix k W) (a₁ k) W)
    (hdone : ∀ (D : Nat) (W : World), w.heap.size ≤ D → I N W → W.heap[D]? = some (.deferred (some [])) → Q .normal { a with defers := { target := .collected D, args := #[] } :: a.defers } W)
    (hstop : ∀ (D k : Nat) (W : World), w.heap.size ≤ D → k < N → Ix k W → W.heap[D]? = some (.deferred (some [])) → (Code.exit id).wpIn F n P Q { a with defers := { target := .collected D, args := #[] } :: a.defers } W) :
    (Code.rangeFunc g ps assign body).wpIn F n P Q a w := by
  refine wpIn_rangeFunc fun fn hfn => ?_
  rw [hro]
  have htell (st : LoopState) (pe : Option Code) : ∃ lp : Loop, lp = { state := st, pending := pe, fn, tmps := a.tmps, params := ps, assign, body, defers := w.heap.size } := ⟨_, rfl⟩
  obtain ⟨ready, hready⟩ := htell .ready none
  obtain ⟨busy, hbusy⟩ := htell .busy none
  obtain ⟨over, hover⟩ := htell .done (some (.exit id))
  obtain ⟨V, hV⟩ : ∃ V, (w.alloc (.deferred (some []))).alloc (.loop ready) = V := ⟨_, rfl⟩
  have at0 : LoopAt w.heap.size (.loop ready) V := by
    subst hV
    refine ⟨?_, (Below.heap_alloc _ _ _ (by simp)).trans (World.alloc_heap_new w _)⟩
    have := World.alloc_heap_new (w.alloc (.deferred (some []))) (.loop ready)
    rwa [World.size_alloc] at this
  have i0 : I 0 V := by subst hV; exact hI.alloc _ (hI.alloc _ h0)
  refine ⟨w.heap.size + 1, [{ target := .collected w.heap.size, args := #[] }], V, { target := .fn (.func gf) lb, args := #[.func (.yield (w.heap.size + 1)) #[] #[]] }, V, gf, #[.func (.yield (w.heap.size + 1)) #[] #[]] ++ lb, V, ?_, ?_, ?_, ?_, fun _ => h1, ?_⟩
  · subst hV hready; exact run_enterLoop_outer _ _ _ _ _
  · simp only [resolve, hg]; simp [go_sem]
  · intro f' hf'; simp [Target.leads] at hf'; subst hf'; exact hFg
  · simp [invoke, go_sem, eg]
  · refine (hseq (w.heap.size + 1) (fun k W => I k W ∧ LoopAt w.heap.size (.loop ready) W) (fun k W => Ix k W ∧ LoopAt w.heap.size (.loop over) W) V (fun _ _ h => h.1)
      (fun k A q h => ⟨hI k A _ none h.1 ⟨rfl, rfl, rfl, Nat.le_refl _, fun _ _ _ => rfl⟩ (fun r e => by cases e), h.2⟩) ?_ ⟨i0, at0⟩).mono ?_
    · rintro k W ⟨hi, hl, hd⟩ hk
      have hlt := (Array.getElem?_eq_some_iff.1 hl).1
      have hy := run_yield (P := P) (args := encs k) hl (by rw [hready]; exact hps k)
      rw [hready] at hy
      refine ⟨fn, _, assign, body, hy, roundIn_of_wpIn hfn (hassign _ k W _ ?_)⟩
      refine ⟨W.putObj (w.heap.size + 1) (.loop busy), by have := run_beginRound (P := P) hl (by rw [hready]); subst hready hbusy; exact this, ?_⟩
      have hl2 : (W.putObj (w.heap.size + 1) (.loop busy)).heap[w.heap.size + 1]? = some (.loop busy) := World.putObj_heap_same hlt
      have hd2 : (W.putObj (w.heap.size + 1) (.loop busy)).heap[w.heap.size]? = some (.deferred (some [])) := (World.putObj_heap_other (by omega)).trans hd
      refine wpIn_mono (hbody _ k _ (hI.putObj _ hi (by omega) hl rfl) hk) ?_
      rintro e a3 W3 hp
      cases e with
      | normal =>
        obtain ⟨hkeep, hi3⟩ := hp
        have hl3 := hkeep.same _ _ (by omega) hl2 rfl
        have hd3 := hkeep.same _ _ (Nat.le_refl _) hd2 rfl
        exact ⟨_, W3.putObj (w.heap.size + 1) (.loop ready), by have := run_endRound (P := P) none hl3; subst hready hbusy; exact this, .inl ⟨rfl, hI.putObj _ hi3 (by omega) hl3 rfl, World.putObj_heap_same (Array.getElem?_eq_some_iff.1 hl3).1, (World.putObj_heap_other (by omega)).trans hd3⟩⟩
      | exit i =>
        obtain ⟨rfl, hkeep, hi3⟩ := hp
        have hl3 := hkeep.same _ _ (by omega) hl2 rfl
        have hd3 := hkeep.same _ _ (Nat.le_refl _) hd2 rfl
        exact ⟨_, W3.putObj (w.heap.size + 1) (.loop over), by have := run_endRound (P := P) (some (.exit i)) hl3; subst hover hbusy; exact this, .inr ⟨rfl, hIx.putObj _ hi3 (by omega) hl3 rfl, World.putObj_heap_same (Array.getElem?_eq_some_iff.1 hl3).1, (World.putObj_heap_other (by omega)).trans hd3⟩⟩
      | ret => exact hp.elim
      | goto t => exact hp.elim
      | panic ch => exact hp.elim
      | outgrown => exact hp.elim
    · rintro e W2 ⟨⟨v, rfl⟩, h⟩
      rcases h with ⟨hi, hl, hd⟩ | ⟨k, hk, hi, hl, hd⟩
      · exact ⟨none, _, by have := run_endLoop (P := P) hl (by rw [hready]; simp); rw [hready] at this; exact this, hdone w.heap.size _ (Nat.le_refl _) (hI.putObj _ hi (by omega) hl rfl) ((World.putObj_heap_other (by omega)).trans hd)⟩
      · exact ⟨some (.exit id), _, by have := run_endLoop (P := P) hl (by rw [hover]; simp); rw [hover] at this; exact this, hstop w.heap.size k _ (Nat.le_refl _) hk (hIx.putObj _ hi (by omega) hl rfl) ((World.putObj_heap_other (by omega)).trans hd)⟩

/-- What ranges leave for the function's end: marks, each with nothing behind it. -/
def Marks (n₀ : Nat) (w : World) : List Deferred → Prop
  | [] => True
  | d :: ds => (∃ D, d = { target := .collected D, args := #[] } ∧ n₀ ≤ D ∧ w.heap[D]? = some (.deferred (some [])) ∧ d ∉ ds) ∧ Marks n₀ w ds

/-- What shuts marks leaves all cells. -/
structure Turned (n₀ : Nat) (w w' : World) : Prop where
  below : Below n₀ w w'
  cells : ∀ (k : Nat) (o : Obj), w.heap[k]? = some o → o.isCells = true → w'.heap[k]? = some o

theorem Turned.refl (n₀ : Nat) (w : World) : Turned n₀ w w := ⟨Below.refl _ _, fun _ _ h _ => h⟩
theorem Turned.trans {n₀ : Nat} {a b c : World} (h : Turned n₀ a b) (k : Turned n₀ b c) : Turned n₀ a c := ⟨h.below.trans k.below, fun i o hi ho => k.cells i o (h.cells i o hi ho) ho⟩
theorem Turned.put {n₀ D : Nat} {w : World} {o' : Obj} (hD : n₀ ≤ D) (h : w.heap[D]? = some (.deferred (some []))) : Turned n₀ w (w.putObj D o') := by
  have hlt := (Array.getElem?_eq_some_iff.1 h).1
  refine ⟨(Below.refl n₀ w).grown (grownBy_putObj' w D o') (by omega) (fun k e => by cases e; omega), fun k o hk ho => ?_⟩
  have : k ≠ D := fun e => by subst e; rw [h] at hk; cases hk; cases ho
  exact (World.putObj_heap_other this).trans hk

theorem Marks.keep {n₀ : Nat} {w w' : World} : ∀ {ds : List Deferred}, Marks n₀ w ds → (∀ D, ({ target := .collected D, args := #[] } : Deferred) ∈ ds → w.heap[D]? = some (.deferred (some [])) → w'.heap[D]? = some (.deferred (some []))) → Marks n₀ w' ds
  | [], _, _ => trivial
  | _ :: _, ⟨⟨D, e, h1, h2, h3⟩, h4⟩, hk => ⟨⟨D, e, h1, hk D (by rw [e]; simp) h2, h3⟩, h4.keep fun D' hD' => hk D' (List.mem_cons_of_mem _ hD')⟩

theorem Marks.leaves {F : Fence} {n : Nat} {P : Program} {fn : Func} {tmps : Array Value} {R : Ending → World → Prop} {n₀ : Nat} : ∀ {ds : List Deferred} {w : World}, Marks n₀ w ds →
    (∀ w', Turned n₀ w w' → LeavesInM F n P fn tmps R [] .returning w') → LeavesInM F n P fn tmps R ds .returning w
  | [], w, _, h => h w (Turned.refl _ _)
  | d :: ds, w, ⟨⟨D, e, h1, h2, h3⟩, h4⟩, h => by
    subst e
    refine ⟨by simp, .inl ⟨D, _, rfl, run_takeDeferred h2, ?_⟩⟩
    refine Marks.leaves (h4.keep fun D' hD' hd => (World.putObj_heap_other (fun e => h3 (by rw [← e]; exact hD'))).trans hd) fun w' hw' => h w' ((Turned.put h1 h2).trans hw')

/-- A region that draws its order, in a round: as outside of it, if it defers nothing. -/
theorem wpAnyIn_of_any {n l : Nat} {P : Program} {md : Region.Mode} {ops : Array Oper} {Q : Exit → Act → World → Prop} (hq : ¬ LetsOut Q) (hd : ∀ (i : Nat) (o : Oper), ops[i]? = some o → ∀ c, o.op ≠ .defer c) :
    ∀ (fuel : Nat) (listed : Array Bool) (a : Act) (w : World), wpAny P md ops Q fuel listed a w → wpAnyIn (Fence.wide.inRound l) n P md ops Q fuel listed a w
  | 0, _, _, _, h => h
  | fuel + 1, listed, a, w, h => by
    refine ⟨h.1, fun i hi => ?_⟩
    have hop := h.2 i hi
    unfold wpOp at hop
    unfold wpOpIn
    cases ho : ops[i]? with
    | none =>
      simp only [ho] at hop ⊢
      exact wpAnyIn_of_any hq hd fuel _ _ _ hop
    | some o =>
      simp only [ho] at hop ⊢
      split
      · rename_i hw
        rw [if_pos hw] at hop
        rcases hop with hop | ⟨_, hl⟩
        case inr => exact absurd hl hq
        refine ⟨fun _ _ => trivial, ?_⟩
        rw [Oper.semAt_plain (Fence.wide.inRound l) _ _ (hd i o ho)]
        unfold Oper.wp at hop
        generalize (execOp a.eval o).run P w = r at *
        cases r with
        | ok x w' =>
          cases x <;> simp only [Oper.upon, Oper.uponIn] at hop ⊢
          case value v => exact wpAnyIn_of_any hq hd fuel _ _ _ hop
          case skip => exact wpAnyIn_of_any hq hd fuel _ _ _ hop
          case defer d => exact wpAnyIn_of_any hq hd fuel _ _ _ hop
          case enter f args =>
            refine ⟨fun h => by simp [Fence.wide] at h, CallsIn.inRound l (callsIn_wide.2 (Calls.mono hop fun e w'' he => ?_))⟩
            cases e with
            | returned u => exact wpAnyIn_of_any hq hd fuel _ _ _ he
            | panicked c => exact he
            | outgrown => exact he
          case row row args =>
            refine ⟨fun h => by simp [Fence.wide] at h, fun c cs _ => ?_⟩
            obtain ⟨v, w'', h1, h2⟩ := hop c cs
            exact ⟨v, w'', wpAnyIn_of_any hq hd fuel _ _ _ h1, stepsIn_wide.2 h2⟩
        | halt x w' => cases x <;> simp only [Oper.upon, Oper.uponIn] at hop ⊢ <;> exact hop
      · rename_i hw
        rw [if_neg hw] at hop
        exact ⟨fun _ _ => trivial, wpAnyIn_of_any hq hd fuel _ _ _ hop⟩

/-- No operation of these defers. -/
def noDefer (ops : Array Oper) : Bool := ops.toList.all fun o => match o.op with | .defer _ => false | _ => true
theorem noDefer_spec {ops : Array Oper} (h : noDefer ops = true) (i : Nat) (o : Oper) (ho : ops[i]? = some o) (c : Call) : o.op ≠ .defer c := by
  intro e
  have hm : o ∈ ops.toList := by
    obtain ⟨hi, rfl⟩ := Array.getElem?_eq_some_iff.1 ho
    exact Array.mem_toList_iff.2 (Array.getElem_mem hi)
  have := List.all_eq_true.1 h o hm
  simp [e] at this

theorem wpIn_region_round {n l : Nat} {P : Program} {S : World → Prop} {id : Nat} {ops : Array Oper} {Q : Exit → Act → World → Prop} {a : Act} {w : World} (hm : P.follows .mixedOrders = true) (hq : ¬ LetsOut Q) (hd : noDefer ops = true) (hS : S w.drew)
    (h : S w.drew → wpAnyH P .any ops Q S ops.size (Array.replicate ops.size false) a w.drew) : (Code.region id ops true).wpIn (Fence.wide.inRound l) n P Q a w :=
  wpIn_region_any hm (wpAnyIn_of_any hq (noDefer_spec hd) _ _ _ _ (wpAny_of_held _ _ _ _ (h hS)))

end Go.Proofs.YtkbhemaijbkpbaaGreat
namespace Go.Proofs.YtkbhemaijbkpbaaGreat
open Go.RowKit Go.Shelf

attribute [local go_sem] Oper.semAt_some

/-- How many are left where the range stands. -/
def rem (R : List Nat) : Value → Nat
  | .pointer (some a) => (R.dropWhile (fun c => decide (c ≠ a.block))).length
  | _ => 0

theorem drop_at {R : List Nat} {k : Nat} (h : k < R.length) : R.drop k = R.getD k 0 :: R.drop (k + 1) := by
  rw [List.drop_eq_getElem_cons h]; simp [List.getD, h]

theorem rem_at : ∀ {R : List Nat} {k : Nat}, R.Nodup → k ≤ R.length → rem R (nxv (R.drop k)) = R.length - k
  | [], k, _, h => by simp at h; subst h; rfl
  | c :: cs, 0, _, _ => by simp [rem, nxv]
  | c :: cs, k + 1, hn, h => by
    have h2 : k ≤ cs.length := by simpa using h
    have ih := rem_at (R := cs) (k := k) (by simp only [List.nodup_cons] at hn; exact hn.2) h2
    rcases Nat.lt_or_ge k cs.length with hk | hk
    · have hd := drop_at hk
      have hm : c ≠ cs.getD k 0 := fun e => by
        simp only [List.nodup_cons] at hn
        exact hn.1 (by rw [e]; simp [List.getD, hk])
      simp only [List.drop_succ_cons, List.length_cons]
      rw [hd] at ih ⊢
      simp only [rem, nxv] at ih ⊢
      rw [List.dropWhile_cons_of_pos (by simpa using hm), ih]
      omega
    · obtain rfl : k = cs.length := by omega
      simp [rem, nxv]

theorem Ch.at : ∀ {R : List Nat} {w : World} {j q k : Nat}, Ch w j q R → k < R.length → w.cell? ⟨R.getD k 0, 2 + j, none⟩ = some (nxv (R.drop (k + 1)))
  | [], _, _, _, _, _, h => by simp at h
  | c :: cs, w, j, q, 0, h, _ => by simpa using (show Ch w j c cs from h.2).first
  | c :: cs, w, j, q, k + 1, h, hk => by
    have := Ch.at (R := cs) (k := k) h.2 (by simpa using hk)
    simpa using this

/-- What the range reads: its two boxes, and the chain. -/
structure BehindAt (W : World) (B q j : Nat) (R : List Nat) : Prop where
  b0 : W.cell? ⟨B, 0, none⟩ = some (.pointer (some ⟨q, 0, none⟩))
  b1 : W.cell? ⟨B + 1, 0, none⟩ = some (.int .i64 j)
  ch : Ch W j q R

def towV (R : List Nat) (k : Nat) : Array Value := #[.pointer (some ⟨R.getD k 0, 0, none⟩)]

theorem behindAny (w : World) (q j : Nat) :
    Calls Tryz.prog 208 #[.pointer (some ⟨q, 0, none⟩), .int .i64 j] w fun e w' =>
      e = .returned (.func (.func 209) #[] #[.pointer (some ⟨w.heap.size, 0, none⟩), .pointer (some ⟨w.heap.size + 1, 0, none⟩)]) ∧ w' = (w.alloc (.cells #[.pointer (some ⟨q, 0, none⟩)] 163)).alloc (.cells #[.int .i64 j] 3) := by
  go_enter Tryz.func208, Tryz.ntmps208
  go_wp2
  go_ret
  exact ⟨rfl, rfl⟩

set_option maxRecDepth 100000 in
set_option maxHeartbeats 2000000 in
theorem behindSeq (n : Nat) {B q j : Nat} {R : List Nat} (hj : j < 8) (hR : R.Nodup) (I : Nat → World → Prop) (hI : ∀ k W, I k W → BehindAt W B q j R) :
    StopsOf Fence.wide n Tryz.prog 209 #[.pointer (some ⟨B, 0, none⟩), .pointer (some ⟨B + 1, 0, none⟩)] (towV R) R.length I := by
  intro l J Jx W hJI hJd hY h0
  have HJI := Lib.hid (fun k A h => hI k A (hJI k A h))
  have HJD := Lib.hid hJd
  have HY := Lib.hid hY
  have HN := Lib.hid hR
  have j0 : (0 : Int) ≤ (j : Int) := by omega
  have j8 : (j : Int) < 8 := by omega
  have hb := HJI.out 0 W h0
  have e0 := hb.b0
  have e1 := hb.b1
  have e2 := hb.ch.first
  have HJ0 := Lib.hid h0
  clear hb hI hJI hJd hY hR h0
  refine callsIn_of_wp Tryz.func209 rfl trivial ?_ rfl
  simp only [Tryz.ntmps209, List.size_toArray, List.length_cons, List.length_nil, Nat.reduceAdd, Nat.reduceSub, Array.replicate_succ, Array.replicate_zero, List.push_toArray, List.append_toArray, List.nil_append, List.cons_append]
  gi_wp2
  refine wpIn_wide.2 ?_
  go_quiet (fail)
  have HJ1 := Lib.hid (HJD.out 0 W nq HJ0.out)
  clear e0 e1 e2 HJ0
  generalize W.drewN nq = W1 at *
  gi_wp2
  gi_loopw [4] (fun p wr => ∃ k : Nat, k ≤ R.length ∧ p = nxv (R.drop k) ∧ J k wr) (fun p _ => rem R p)
  case atStart => exact ⟨0, Nat.zero_le _, by simp, HJ1.out⟩
  case round =>
    obtain ⟨k, hk, rfl, hJ⟩ := hrel
    clear HJ1
    by_cases hlt : k < R.length
    · have HM := Lib.hid (rem_at HN.out hk)
      have HM2 := Lib.hid (rem_at (k := k + 1) HN.out (by omega))
      have hd := drop_at hlt
      rw [hd, show nxv (R.getD k 0 :: R.drop (k + 1)) = .pointer (some ⟨R.getD k 0, 0, none⟩) from rfl] at HM ⊢
      obtain ⟨fn, tmps, assign, body, hy, hR⟩ := HY.out k wr hJ hlt
      have HRR := Lib.hid hR
      have HRat : Hid (∀ W', J (k + 1) W' → BehindAt W' B q j R ∧ W'.cell? ⟨R.getD k 0, 2 + j, none⟩ = some (nxv (R.drop (k + 1)))) := Lib.hid fun W' h => ⟨HJI.out _ W' h, (HJI.out _ W' h).ch.at hlt⟩
      clear hR hJ hd
      simp only [towV] at hy
      generalize R.getD k 0 = c at *
      obtain ⟨y, hy0⟩ : ∃ y, nxv (R.drop (k + 1)) = y := ⟨_, rfl⟩
      rw [hy0] at HRat HM2
      have HYe := Lib.hid hy0
      clear hy0
      gi_wp2
      refine ⟨(fun h => by simp [Fence.wide] at h), HRR.out.mono ?_⟩
      rintro e3 W3 (⟨rfl, hJ3⟩ | ⟨rfl, hJx3⟩)
      · obtain ⟨hb, e2⟩ := HRat.out W3 hJ3
        have e0 := hb.b0
        have e1 := hb.b1
        have HJ3 := Lib.hid hJ3
        clear hJ3 hb hy HRat
        gi_wp2
        refine wpIn_wide.2 ?_
        go_quiet (fail)
        have HJ4 := Lib.hid (HJD.out (k + 1) W3 nq HJ3.out)
        clear e0 e1 e2 HJ3
        generalize W3.drewN nq = W4 at *
        gi_wp2
        go_roundw
        case rel => exact ⟨k + 1, by omega, HYe.out.symm, HJ4.out⟩
        case measure =>
          have a1 := HM.out
          have a2 := HM2.out
          simp
          omega
      · gi_wp2
        refine bodyPost_ret (results_none rfl _ _ _) rfl ?_
        exact ⟨⟨_, rfl⟩, .inr ⟨k, hlt, hJx3⟩⟩
    · obtain rfl : k = R.length := by omega
      have HJ := Lib.hid hJ
      clear hJ
      rw [show nxv (R.drop R.length) = .pointer none by rw [List.drop_of_length_le (Nat.le_refl _)]; rfl]
      gi_wp2
      go_end0
      exact ⟨⟨_, rfl⟩, .inl HJ.out⟩

end Go.Proofs.YtkbhemaijbkpbaaGreat
