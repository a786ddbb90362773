/-
  Maps that the call makes, with keys of one byte. Conditions: none. holders of package object: a map of functions that make an empty holder each. Conditions: none. What the functions that make a holder make. Conditions: none.
-/
import Derived.Test.YtniefplgijpckaaGreatBasB12
import Derived.Test.YtniefplgijpckaaGreatKB12
import Derived.Test.YtniefplgijpckaaGreatDA12
import Derived.Test.YtniefplgijpckaaGreatSkCopy12m
import Derived.Test.YtniefplgijpckaaGreatCoiA12
import Derived.MapKept
import Derived.Carry
namespace Go.Proofs.YtniefplgijpckaaGreat
open Go.RowKit Go.Lib

/-- Block r is a map with these entries. -/
def MapIs (w : World) (r : Nat) (es : Array MapEntry) : Prop := w.heap[r]? = some (.map es es.size)

theorem MapIs.lt {w : World} {r : Nat} {es : Array MapEntry} (h : MapIs w r es) : r < w.heap.size := lt_of_block h
theorem MapIs.below {w w' : World} {r : Nat} {es : Array MapEntry} (h : MapIs w r es) (hb : Below w.heap.size w w') : MapIs w' r es := (hb.block r h.lt).trans h
theorem MapIs.alloc {w : World} {r : Nat} {es : Array MapEntry} (h : MapIs w r es) (o : Obj) : MapIs (w.alloc o) r es := (Below.heap_alloc _ _ _ h.lt).trans h
theorem MapIs.new (w : World) : MapIs (w.alloc (.map #[] 0)) w.heap.size #[] := heap_alloc_new w _

theorem run_ins8 {P : Program} (w : World) (t kt et : TypeId) (r : Nat) (es : Array MapEntry) (k : Int) (v : Value) (hm : P.underlying t = some (.map kt et)) (hk : P.underlying kt = some (.int .u8)) (hb : MapIs w r es) (hf : Instr.findNow (.int .u8) (.int .u8 k) es.toList 0 = some none) :
    (Instr.mapUpdate t (.map (some r)) (.int .u8 k) v).run P w = .ok () { w with heap := w.heap.setIfInBounds r (.map (es.push { key := .int .u8 k, val := v, born := es.size }) (es.size + 1)) } := by
  have hc : (Instr.checkKey false 10000 kt (.int .u8 k)).run P w = .ok () w := MapKept.run_checkKey (k := .int .u8 k) hk (by simp [MapKept.IsKey]) false 9999
  simp [Instr.mapUpdate, run_underlying hm, MapKept.run_getObj_map hb, hc, MapKept.run_findKey hk hf, MapKept.run_setObj_map _ hb, Result.andThen]

/-- An entry that is not there yet. -/
theorem wpList_ins8 {P : Program} (w : World) {ops : Array Oper} {rest : List Oper} {o : Oper} {a : Act} {Q : Exit → Act → World → Prop}
    (hg : o.guard = none) (m x v : Operand) (t : TypeId) (hop : o.op = Op.insert t m x v) (kt et : TypeId) (hm : P.underlying t = some (.map kt et)) (hk : P.underlying kt = some (.int .u8))
    (r : Nat) (es : Array MapEntry) (k : Int) (u : Value) (hmv : a.eval m = .map (some r)) (hx : a.eval x = .int .u8 k) (hv : a.eval v = u) (hb : MapIs w r es) (hf : Instr.findNow (.int .u8) (.int .u8 k) es.toList 0 = some none)
    (hK : ∀ w', MapIs w' r (es.push { key := .int .u8 k, val := u, born := es.size }) → (∀ q, q ≠ r → w'.heap[q]? = w.heap[q]?) → w'.heap.size = w.heap.size → Wrote (fun q => q = r) w w' → wpList P ops Q rest (a.put o.dst undef) w') :
    wpList P ops Q (o :: rest) a w := by
  refine wpList_plain hg fun K' hK' => ?_
  have hrun := run_ins8 (P := P) w t kt et r es k u hm hk hb hf
  unfold Oper.wp
  simp [execOp, hop, hmv, hx, hv, hrun, Result.andThen]
  refine hK' _ _ (hK _ ?_ ?_ (by simp) ⟨rfl, rfl, rfl, by simp, ?_⟩)
  · have hl := hb.lt
    unfold MapIs
    simp [hl]
  · intro q hq
    simp [Array.getElem?_setIfInBounds_ne (Ne.symm hq)]
  · intro q hq hne
    simp [Array.getElem?_setIfInBounds_ne (Ne.symm hne)]

/-- A look-up, at a key that is there. -/
theorem run_look8 {P : Program} (w : World) (t kt et : TypeId) (r : Nat) (es : Array MapEntry) (k : Int) (ok : Bool) (i : Nat) (v : Value) (hm : P.underlying t = some (.map kt et)) (hk : P.underlying kt = some (.int .u8)) (hb : MapIs w r es) (hf : Instr.findNow (.int .u8) (.int .u8 k) es.toList 0 = some (some (i, v))) :
    (Instr.lookup t (.map (some r)) (.int .u8 k) ok).run P w = .ok (if ok then .tuple #[v, .bool true] else v) w := by
  have hc : ∀ e, (Instr.checkKey e 10000 kt (.int .u8 k)).run P w = .ok () w := fun e => MapKept.run_checkKey (k := .int .u8 k) hk (by simp [MapKept.IsKey]) e 9999
  simp [Instr.lookup, run_underlying hm, MapKept.run_getObj_map hb, hc, MapKept.run_findKey hk hf, Result.andThen]
/-- And at one that is not. -/
theorem run_look8_none {P : Program} (w : World) (t kt et : TypeId) (r : Nat) (es : Array MapEntry) (k : Int) (ok : Bool) (z : Value) (hm : P.underlying t = some (.map kt et)) (hk : P.underlying kt = some (.int .u8)) (hb : MapIs w r es) (hz : (zeroValue et).run P w = .ok z w) (hf : Instr.findNow (.int .u8) (.int .u8 k) es.toList 0 = some none) :
    (Instr.lookup t (.map (some r)) (.int .u8 k) ok).run P w = .ok (if ok then .tuple #[z, .bool false] else z) w := by
  have hc : ∀ e, (Instr.checkKey e 10000 kt (.int .u8 k)).run P w = .ok () w := fun e => MapKept.run_checkKey (k := .int .u8 k) hk (by simp [MapKept.IsKey]) e 9999
  simp [Instr.lookup, run_underlying hm, MapKept.run_getObj_map hb, hc, MapKept.run_findKey hk hf, hz, Result.andThen]
theorem find_none {k : Int} : ∀ (es : List MapEntry) (i : Nat), (∀ e ∈ es, ∃ j, e.key = .int .u8 j ∧ j ≠ k) → Instr.findNow (.int .u8) (.int .u8 k) es i = some none
  | [], _, _ => rfl
  | e :: es, i, h => by
    obtain ⟨j, hj, hne⟩ := h e (by simp)
    unfold Instr.findNow
    rw [hj]
    have : (k == j) = false := by simp; omega
    simp only [Instr.sameNow, if_true, this]
    exact find_none es (i + 1) (fun e' he' => h e' (by simp [he']))


end Go.Proofs.YtniefplgijpckaaGreat
namespace Go.Proofs.YtniefplgijpckaaGreat
open Go.RowKit Go.Lib

/-- The functions that make an empty one of each. -/
def holdM : Array MapEntry := #[{ key := .int .u8 1, val := .func (.func 39) #[] #[], born := 0 }, { key := .int .u8 2, val := .func (.func 41) #[] #[], born := 1 }, { key := .int .u8 3, val := .func (.func 43) #[] #[], born := 2 }]

theorem mapNext {w W W' : World} {m : Nat} (hb : Below w.heap.size w W) (h : w.heap.size ≤ m) (hw : Wrote (fun q => q = m) W W') : Below w.heap.size w W' := hb.trans (hw.below hb.size (fun g hg => by omega))

set_option maxRecDepth 100000 in
set_option maxHeartbeats 8000000 in
theorem holdersAny (w : World) :
    Calls Tryz.prog 29 #[] w fun e w' => Below w.heap.size w w' ∧ ∃ m, e = .returned (.map (some m)) ∧ MapIs w' m holdM := by
  have hmm := @run_makeMap Tryz.prog
  have B0 := Lib.hid (show Below w.heap.size w (w.alloc (.map #[] 0)) from (Below.refl _ _).alloc (Nat.le_refl _) _)
  have M0 := Lib.hid (MapIs.new w)
  go_enter Tryz.func29, Tryz.ntmps29
  go_wp2_with (first
    | ((with_reducible refine wpList_ins8 _ rfl _ _ _ 65 rfl 5 63 Tryz.underlying65 Tryz.underlying5 _ _ 1 _ rfl rfl rfl M0.out rfl ?_); intro W1 hm1 ho1 hs1 hw1; have M1 := Lib.hid hm1; have B1 := Lib.hid (mapNext B0.out (Nat.le_refl _) hw1); clear hm1 ho1 hs1 hw1)
    | ((with_reducible refine wpList_ins8 _ rfl _ _ _ 65 rfl 5 63 Tryz.underlying65 Tryz.underlying5 _ _ 2 _ rfl rfl rfl M1.out rfl ?_); intro W2 hm2 ho2 hs2 hw2; have M2 := Lib.hid hm2; have B2 := Lib.hid (mapNext B1.out (Nat.le_refl _) hw2); clear hm2 ho2 hs2 hw2)
    | ((with_reducible refine wpList_ins8 _ rfl _ _ _ 65 rfl 5 63 Tryz.underlying65 Tryz.underlying5 _ _ 3 _ rfl rfl rfl M2.out rfl ?_); intro W3 hm3 ho3 hs3 hw3; have M3 := Lib.hid hm3; have B3 := Lib.hid (mapNext B2.out (Nat.le_refl _) hw3); clear hm3 ho3 hs3 hw3))
  go_ret
  exact ⟨B3.out, _, rfl, M3.out⟩


end Go.Proofs.YtniefplgijpckaaGreat
namespace Go.Proofs.YtniefplgijpckaaGreat
open Go.RowKit Go.Lib

/-- The value of a holder. -/
def holdV (t : TypeId) (p : Nat) : Value := .iface t (.agg #[.pointer (some ⟨p, 0, none⟩)])

set_option maxRecDepth 100000 in
set_option maxHeartbeats 1600000 in
theorem holdNew1 (n : Int) (w : World) :
    Calls Tryz.prog 39 #[.int .i64 n] w fun e w' => ∃ p, e = .returned (holdV 92 p) ∧ K9.Stk w' (New w w') p (mostOf n) [] ∧ Below w.heap.size w w' := by
  have N := Lib.hid (K9.newAny n w)
  go_enter Tryz.func39, Tryz.ntmps39
  go_wp2_with fail
  refine N.out.mono ?_
  clear N
  rintro e w1 ⟨rfl, h, b⟩
  have H := Lib.hid (And.intro h b)
  clear h b
  go_wp2
  go_ret
  exact ⟨_, rfl, H.out.1, H.out.2⟩

set_option maxRecDepth 100000 in
set_option maxHeartbeats 1600000 in
theorem holdNew2 (n : Int) (w : World) :
    Calls Tryz.prog 41 #[.int .i64 n] w fun e w' => ∃ p, e = .returned (holdV 96 p) ∧ D10.Rng w' (New w w') p (mostOf n) [] ∧ Below w.heap.size w w' := by
  have N := Lib.hid (D10.newAny n w)
  go_enter Tryz.func41, Tryz.ntmps41
  go_wp2_with fail
  refine N.out.mono ?_
  clear N
  rintro e w1 ⟨q, rfl, h, b⟩
  have H := Lib.hid (And.intro h b)
  clear h b
  go_wp2
  go_ret
  exact ⟨_, rfl, H.out.1, H.out.2⟩

set_option maxRecDepth 100000 in
set_option maxHeartbeats 1600000 in
theorem holdNew3 (n : Int) (w : World) :
    Calls Tryz.prog 43 #[.int .i64 n] w fun e w' => ∃ p, e = .returned (holdV 100 p) ∧ Skip w' (New w w') p (mostOf n) [] ∧ Below w.heap.size w w' := by
  have N := Lib.hid (newS n w)
  go_enter Tryz.func43, Tryz.ntmps43
  go_wp2_with fail
  refine N.out.mono ?_
  clear N
  rintro e w1 ⟨rfl, h, b⟩
  have H := Lib.hid (And.intro h b)
  clear h b
  go_wp2
  go_ret
  exact ⟨_, rfl, H.out.1, H.out.2⟩

end Go.Proofs.YtniefplgijpckaaGreat
