/-
  acts of package spec makes a map of maps of what each object does by its kinds; what is looked up in them. Conditions: none.
-/
import Derived.Test.YtejnadokjnfagaaActT8
import Derived.MapKept
import Derived.Carry
namespace Go.Proofs.Ytejnadokjnfagaa
open Go.RowKit

/-- Block r is a map with these entries. -/
def MapIs (w : World) (r : Nat) (es : Array MapEntry) : Prop := w.heap[r]? = some (.map es es.size)

theorem MapIs.lt {w : World} {r : Nat} {es : Array MapEntry} (h : MapIs w r es) : r < w.heap.size := lt_of_block h
theorem MapIs.below {w w' : World} {r : Nat} {es : Array MapEntry} (h : MapIs w r es) (hb : Below w.heap.size w w') : MapIs w' r es := (hb.block r h.lt).trans h
theorem MapIs.alloc {w : World} {r : Nat} {es : Array MapEntry} (h : MapIs w r es) (o : Obj) : MapIs (w.alloc o) r es := (Below.heap_alloc _ _ _ h.lt).trans h
theorem MapIs.new (w : World) : MapIs (w.alloc (.map #[] 0)) w.heap.size #[] := heap_alloc_new w _

theorem run_ins8 {P : Program} (w : World) (t kt et : TypeId) (r : Nat) (es : Array MapEntry) (k : Int) (v : Value) (hm : P.underlying t = some (.map kt et)) (hk : P.underlying kt = some (.int .u8)) (hb : MapIs w r es) (hf : Instr.findNow (.int .u8) (.int .u8 k) es.toList 0 = some none) :
    (Instr.mapUpdate t (.map (some r)) (.int .u8 k) v).run P w = .ok () { w with heap := w.heap.setIfInBounds r (.map (es.push { key := .int .u8 k, val := v, born := es.size }) (es.size + 1)) } := by
  have hc : (Instr.checkKey false 10000 kt (.int .u8 k)).run P w = .ok () w := MapKept.run_checkKey (k := .int .u8 k) hk (by simp [MapKept.IsKey]) false 9999
  simp [Instr.mapUpdate, run_underlying hm, MapKept.run_getObj_map hb, hc, MapKept.run_findKey hk hf, MapKept.run_setObj_map _ hb, Result.andThen]

/-- An entry that is not there yet. -/
theorem wpList_ins8 {P : Program} (w : World) {ops : Array Oper} {rest : List Oper} {o : Oper} {a : Act} {Q : Exit → Act → World → Prop}
    (hg : o.guard = none) (m x v : Operand) (t : TypeId) (hop : o.op = Op.insert t m x v) (kt et : TypeId) (hm : P.underlying t = some (.map kt et)) (hk : P.underlying kt = some (.int .u8))
    (r : Nat) (es : Array MapEntry) (k : Int) (u : Value) (hmv : a.eval m = .map (some r)) (hx : a.eval x = .int .u8 k) (hv : a.eval v = u) (hb : MapIs w r es) (hf : Instr.findNow (.int .u8) (.int .u8 k) es.toList 0 = some none)
    (hK : ∀ w', MapIs w' r (es.push { key := .int .u8 k, val := u, born := es.size }) → (∀ q, q ≠ r → w'.heap[q]? = w.heap[q]?) → w'.heap.size = w.heap.size → Wrote (fun q => q = r) w w' → wpList P ops Q rest (a.put o.dst undef) w') :
    wpList P ops Q (o :: rest) a w := by
  refine wpList_plain hg fun K' hK' => ?_
  have hrun := run_ins8 (P := P) w t kt et r es k u hm hk hb hf
  unfold Oper.wp
  simp [execOp, hop, hmv, hx, hv, hrun, Result.andThen]
  refine hK' _ _ (hK _ ?_ ?_ (by simp) ⟨rfl, rfl, rfl, by simp, ?_⟩)
  · have hl := hb.lt
    unfold MapIs
    simp [hl]
  · intro q hq
    simp [Array.getElem?_setIfInBounds_ne (Ne.symm hq)]
  · intro q hq hne
    simp [Array.getElem?_setIfInBounds_ne (Ne.symm hne)]

/-- A look-up, at a key that is there. -/
theorem run_look8 {P : Program} (w : World) (t kt et : TypeId) (r : Nat) (es : Array MapEntry) (k : Int) (ok : Bool) (i : Nat) (v : Value) (hm : P.underlying t = some (.map kt et)) (hk : P.underlying kt = some (.int .u8)) (hb : MapIs w r es) (hf : Instr.findNow (.int .u8) (.int .u8 k) es.toList 0 = some (some (i, v))) :
    (Instr.lookup t (.map (some r)) (.int .u8 k) ok).run P w = .ok (if ok then .tuple #[v, .bool true] else v) w := by
  have hc : ∀ e, (Instr.checkKey e 10000 kt (.int .u8 k)).run P w = .ok () w := fun e => MapKept.run_checkKey (k := .int .u8 k) hk (by simp [MapKept.IsKey]) e 9999
  simp [Instr.lookup, run_underlying hm, MapKept.run_getObj_map hb, hc, MapKept.run_findKey hk hf, Result.andThen]
/-- And at one that is not. -/
theorem run_look8_none {P : Program} (w : World) (t kt et : TypeId) (r : Nat) (es : Array MapEntry) (k : Int) (ok : Bool) (z : Value) (hm : P.underlying t = some (.map kt et)) (hk : P.underlying kt = some (.int .u8)) (hb : MapIs w r es) (hz : (zeroValue et).run P w = .ok z w) (hf : Instr.findNow (.int .u8) (.int .u8 k) es.toList 0 = some none) :
    (Instr.lookup t (.map (some r)) (.int .u8 k) ok).run P w = .ok (if ok then .tuple #[z, .bool false] else z) w := by
  have hc : ∀ e, (Instr.checkKey e 10000 kt (.int .u8 k)).run P w = .ok () w := fun e => MapKept.run_checkKey (k := .int .u8 k) hk (by simp [MapKept.IsKey]) e 9999
  simp [Instr.lookup, run_underlying hm, MapKept.run_getObj_map hb, hc, MapKept.run_findKey hk hf, hz, Result.andThen]
/-- At a map that is nil. -/
theorem run_look8_nil {P : Program} (w : World) (t kt et : TypeId) (k : Int) (ok : Bool) (z : Value) (hm : P.underlying t = some (.map kt et)) (hk : P.underlying kt = some (.int .u8)) (hz : (zeroValue et).run P w = .ok z w) :
    (Instr.lookup t (.map none) (.int .u8 k) ok).run P w = .ok (if ok then .tuple #[z, .bool false] else z) w := by
  have hc : ∀ e, (Instr.checkKey e 10000 kt (.int .u8 k)).run P w = .ok () w := fun e => MapKept.run_checkKey (k := .int .u8 k) hk (by simp [MapKept.IsKey]) e 9999
  have hf : Instr.findNow (.int .u8) (.int .u8 k) ([] : List MapEntry) 0 = some none := rfl
  simp [Instr.lookup, run_underlying hm, hc, MapKept.run_findKey hk hf, hz, Result.andThen]

/-- What an operation does, and where. -/
def actV (d a : Nat) : Value := .agg #[.func (.func d) #[] #[], .func (.func a) #[] #[]]

/-- What a stack does. -/
def stackM : Array MapEntry := #[{ key := .int .u8 1, val := actV 34 35, born := 0 }, { key := .int .u8 2, val := actV 36 37, born := 1 }]
/-- What a deque does. -/
def dequeM : Array MapEntry := #[{ key := .int .u8 1, val := actV 34 38, born := 0 }, { key := .int .u8 2, val := actV 34 35, born := 1 }, { key := .int .u8 3, val := actV 36 38, born := 2 }, { key := .int .u8 4, val := actV 36 37, born := 3 }]
/-- What a heap does. -/
def heapM : Array MapEntry := #[{ key := .int .u8 1, val := actV 34 39, born := 0 }, { key := .int .u8 2, val := actV 36 38, born := 1 }]
/-- The map of maps. -/
def ActsAt (w : World) (m0 : Nat) : Prop := ∃ m1 m2 m3, MapIs w m0 #[{ key := .int .u8 1, val := .map (some m1), born := 0 }, { key := .int .u8 2, val := .map (some m2), born := 1 }, { key := .int .u8 3, val := .map (some m3), born := 2 }] ∧ MapIs w m1 stackM ∧ MapIs w m2 dequeM ∧ MapIs w m3 heapM
theorem ActsAt.below {w w' : World} {m0 : Nat} (h : ActsAt w m0) (hb : Below w.heap.size w w') : ActsAt w' m0 := by
  obtain ⟨m1, m2, m3, h0, h1, h2, h3⟩ := h
  exact ⟨m1, m2, m3, h0.below hb, h1.below hb, h2.below hb, h3.below hb⟩

/-- The maps that stand already. -/
structure Mk (w : World) (m0 m1 m2 m3 : Nat) (e0 e1 e2 e3 : Array MapEntry) (many : Nat) (W : World) : Prop where
  b : Below w.heap.size w W
  s : W.heap.size = w.heap.size + many
  q0 : m0 = w.heap.size
  q1 : m1 = w.heap.size + 1
  q2 : 3 ≤ many → m2 = w.heap.size + 2
  q3 : 4 ≤ many → m3 = w.heap.size + 3
  h0 : MapIs W m0 e0
  h1 : MapIs W m1 e1
  h2 : 3 ≤ many → MapIs W m2 e2
  h3 : 4 ≤ many → MapIs W m3 e3

section
variable {w W W' : World} {m0 m1 m2 m3 : Nat} {e0 e1 e2 e3 es : Array MapEntry} {many : Nat}
theorem Mk.start (w : World) : Mk w w.heap.size (w.heap.size + 1) 0 0 #[] #[] #[] #[] 2 ((w.alloc (.map #[] 0)).alloc (.map #[] 0)) :=
  ⟨((Below.refl _ w).alloc (Nat.le_refl _) _).alloc (by simp) _, by simp, rfl, rfl, (fun h => by omega), (fun h => by omega), (MapIs.new w).alloc _, by have := MapIs.new (w.alloc (.map #[] 0)); simpa using this, (fun h => by omega), (fun h => by omega)⟩
theorem Mk.make2 (h : Mk w m0 m1 m2 m3 e0 e1 e2 e3 2 W) : Mk w m0 m1 W.heap.size m3 e0 e1 #[] e3 3 (W.alloc (.map #[] 0)) :=
  ⟨h.b.alloc h.b.size _, by simp; exact h.s, h.q0, h.q1, (fun _ => h.s), (fun h => by omega), h.h0.alloc _, h.h1.alloc _, (fun _ => MapIs.new W), (fun h => by omega)⟩
theorem Mk.make3 (h : Mk w m0 m1 m2 m3 e0 e1 e2 e3 3 W) : Mk w m0 m1 m2 W.heap.size e0 e1 e2 #[] 4 (W.alloc (.map #[] 0)) :=
  ⟨h.b.alloc h.b.size _, by simp; exact h.s, h.q0, h.q1, (fun _ => h.q2 (by omega)), (fun _ => h.s), h.h0.alloc _, h.h1.alloc _, (fun _ => (h.h2 (by omega)).alloc _), (fun _ => MapIs.new W)⟩
theorem Mk.below (h : Mk w m0 m1 m2 m3 e0 e1 e2 e3 many W) {r : Nat} (hw : Wrote (fun q => q = r) W W') (hr : w.heap.size ≤ r) : Below w.heap.size w W' := h.b.trans (hw.below h.b.size (fun g hg => by omega))
theorem Mk.put0 (h : Mk w m0 m1 m2 m3 e0 e1 e2 e3 many W) (hm : MapIs W' m0 es) (ho : ∀ q, q ≠ m0 → W'.heap[q]? = W.heap[q]?) (hs : W'.heap.size = W.heap.size) (hw : Wrote (fun q => q = m0) W W') : Mk w m0 m1 m2 m3 es e1 e2 e3 many W' := by
  have a0 := h.q0; have a1 := h.q1
  exact ⟨h.below hw (by omega), hs.trans h.s, h.q0, h.q1, h.q2, h.q3, hm, (ho m1 (by omega)).trans h.h1, (fun g => (ho m2 (by have := h.q2 g; omega)).trans (h.h2 g)), (fun g => (ho m3 (by have := h.q3 g; omega)).trans (h.h3 g))⟩
theorem Mk.put1 (h : Mk w m0 m1 m2 m3 e0 e1 e2 e3 many W) (hm : MapIs W' m1 es) (ho : ∀ q, q ≠ m1 → W'.heap[q]? = W.heap[q]?) (hs : W'.heap.size = W.heap.size) (hw : Wrote (fun q => q = m1) W W') : Mk w m0 m1 m2 m3 e0 es e2 e3 many W' := by
  have a0 := h.q0; have a1 := h.q1
  exact ⟨h.below hw (by omega), hs.trans h.s, h.q0, h.q1, h.q2, h.q3, (ho m0 (by omega)).trans h.h0, hm, (fun g => (ho m2 (by have := h.q2 g; omega)).trans (h.h2 g)), (fun g => (ho m3 (by have := h.q3 g; omega)).trans (h.h3 g))⟩
theorem Mk.put2 (h : Mk w m0 m1 m2 m3 e0 e1 e2 e3 many W) (h3 : 3 ≤ many) (hm : MapIs W' m2 es) (ho : ∀ q, q ≠ m2 → W'.heap[q]? = W.heap[q]?) (hs : W'.heap.size = W.heap.size) (hw : Wrote (fun q => q = m2) W W') : Mk w m0 m1 m2 m3 e0 e1 es e3 many W' := by
  have a0 := h.q0; have a1 := h.q1; have a2 := h.q2 h3
  exact ⟨h.below hw (by omega), hs.trans h.s, h.q0, h.q1, h.q2, h.q3, (ho m0 (by omega)).trans h.h0, (ho m1 (by omega)).trans h.h1, (fun _ => hm), (fun g => (ho m3 (by have := h.q3 g; omega)).trans (h.h3 g))⟩
theorem Mk.put3 (h : Mk w m0 m1 m2 m3 e0 e1 e2 e3 many W) (h4 : 4 ≤ many) (hm : MapIs W' m3 es) (ho : ∀ q, q ≠ m3 → W'.heap[q]? = W.heap[q]?) (hs : W'.heap.size = W.heap.size) (hw : Wrote (fun q => q = m3) W W') : Mk w m0 m1 m2 m3 e0 e1 e2 es many W' := by
  have a0 := h.q0; have a1 := h.q1; have a2 := h.q2 (by omega); have a3 := h.q3 h4
  exact ⟨h.below hw (by omega), hs.trans h.s, h.q0, h.q1, h.q2, h.q3, (ho m0 (by omega)).trans h.h0, (ho m1 (by omega)).trans h.h1, (fun _ => (ho m2 (by omega)).trans (h.h2 (by omega))), (fun _ => hm)⟩
end

set_option maxRecDepth 100000 in
set_option maxHeartbeats 8000000 in
theorem actsAny (w : World) :
    Calls Try.prog 26 #[] w fun e w' => Below w.heap.size w w' ∧ ∃ m, e = .returned (.map (some m)) ∧ ActsAt w' m := by
  have hmm := @run_makeMap Try.prog
  have H0 := Lib.hid (Mk.start w)
  go_enter Try.func26, Try.ntmps26
  go_wp2_with (first
    | ((with_reducible refine wpList_ins8 _ rfl _ _ _ 51 rfl 5 58 Try.underlying51 Try.underlying5 _ _ 1 _ rfl rfl rfl (H0.out.h1) rfl ?_); intro W1 hm1 ho1 hs1 hw1; have H1 := Lib.hid (H0.out.put1 hm1 ho1 hs1 hw1); clear hm1 ho1 hs1 hw1)
    | ((with_reducible refine wpList_ins8 _ rfl _ _ _ 51 rfl 5 58 Try.underlying51 Try.underlying5 _ _ 2 _ rfl rfl rfl (H1.out.h1) rfl ?_); intro W2 hm2 ho2 hs2 hw2; have H2 := Lib.hid (H1.out.put1 hm2 ho2 hs2 hw2); clear hm2 ho2 hs2 hw2)
    | ((with_reducible refine wpList_ins8 _ rfl _ _ _ 52 rfl 5 51 Try.underlying52 Try.underlying5 _ _ 1 _ rfl rfl rfl (H2.out.h0) rfl ?_); intro W3 hm3 ho3 hs3 hw3; have H3 := Lib.hid (H2.out.put0 hm3 ho3 hs3 hw3); clear hm3 ho3 hs3 hw3)
    | ((with_reducible refine wpList_ins8 _ rfl _ _ _ 51 rfl 5 58 Try.underlying51 Try.underlying5 _ _ 1 _ rfl rfl rfl (H3.out.make2.h2 (by omega)) rfl ?_); intro W4 hm4 ho4 hs4 hw4; have H4 := Lib.hid (H3.out.make2.put2 (by omega) hm4 ho4 hs4 hw4); clear hm4 ho4 hs4 hw4)
    | ((with_reducible refine wpList_ins8 _ rfl _ _ _ 51 rfl 5 58 Try.underlying51 Try.underlying5 _ _ 2 _ rfl rfl rfl (H4.out.h2 (by omega)) rfl ?_); intro W5 hm5 ho5 hs5 hw5; have H5 := Lib.hid (H4.out.put2 (by omega) hm5 ho5 hs5 hw5); clear hm5 ho5 hs5 hw5)
    | ((with_reducible refine wpList_ins8 _ rfl _ _ _ 51 rfl 5 58 Try.underlying51 Try.underlying5 _ _ 3 _ rfl rfl rfl (H5.out.h2 (by omega)) rfl ?_); intro W6 hm6 ho6 hs6 hw6; have H6 := Lib.hid (H5.out.put2 (by omega) hm6 ho6 hs6 hw6); clear hm6 ho6 hs6 hw6)
    | ((with_reducible refine wpList_ins8 _ rfl _ _ _ 51 rfl 5 58 Try.underlying51 Try.underlying5 _ _ 4 _ rfl rfl rfl (H6.out.h2 (by omega)) rfl ?_); intro W7 hm7 ho7 hs7 hw7; have H7 := Lib.hid (H6.out.put2 (by omega) hm7 ho7 hs7 hw7); clear hm7 ho7 hs7 hw7)
    | ((with_reducible refine wpList_ins8 _ rfl _ _ _ 52 rfl 5 51 Try.underlying52 Try.underlying5 _ _ 2 _ rfl rfl rfl (H7.out.h0) rfl ?_); intro W8 hm8 ho8 hs8 hw8; have H8 := Lib.hid (H7.out.put0 hm8 ho8 hs8 hw8); clear hm8 ho8 hs8 hw8)
    | ((with_reducible refine wpList_ins8 _ rfl _ _ _ 51 rfl 5 58 Try.underlying51 Try.underlying5 _ _ 1 _ rfl rfl rfl (H8.out.make3.h3 (by omega)) rfl ?_); intro W9 hm9 ho9 hs9 hw9; have H9 := Lib.hid (H8.out.make3.put3 (by omega) hm9 ho9 hs9 hw9); clear hm9 ho9 hs9 hw9)
    | ((with_reducible refine wpList_ins8 _ rfl _ _ _ 51 rfl 5 58 Try.underlying51 Try.underlying5 _ _ 2 _ rfl rfl rfl (H9.out.h3 (by omega)) rfl ?_); intro W10 hm10 ho10 hs10 hw10; have H10 := Lib.hid (H9.out.put3 (by omega) hm10 ho10 hs10 hw10); clear hm10 ho10 hs10 hw10)
    | ((with_reducible refine wpList_ins8 _ rfl _ _ _ 52 rfl 5 51 Try.underlying52 Try.underlying5 _ _ 3 _ rfl rfl rfl (H10.out.h0) rfl ?_); intro W11 hm11 ho11 hs11 hw11; have H11 := Lib.hid (H10.out.put0 hm11 ho11 hs11 hw11); clear hm11 ho11 hs11 hw11))
  go_ret
  exact ⟨H11.out.b, _, rfl, _, _, _, H11.out.h0, H11.out.h1, H11.out.h2 (by omega), H11.out.h3 (by omega)⟩

end Go.Proofs.Ytejnadokjnfagaa
