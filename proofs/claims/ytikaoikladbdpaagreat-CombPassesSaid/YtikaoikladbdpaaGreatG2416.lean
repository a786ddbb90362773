/-
  Rows of one's own: operations, items; what is told is copied into a row. Conditions: none; no Go function is looked at here. served of package comb: items with what an object tells of their operations, done together. Conditions: an object as Ob says, its values of 32 bits; at most a thousand items, that lie in memory beside it. slices.Clone of items: a row of one's own. Conditions: at most a million items, that lie in memory. What is done at the place 36 of who serves (package comb): the batch is handed to the object, and its items are told. Conditions: a turn in a block of its own, its batch's row and the object apart; at most a thousand items. A range over a function value whose rounds may go on, break, or return: N rounds at most, one behind the other. Between two rounds the function may write to blocks of its own (F). Conditions: outside of any other round; no Go function is looked at here. Which records a list comes to (a path), in plain lists; the map of those that were met. Conditions: none.
-/
import Derived.Test.YtikaoikladbdpaaGreatG1516
import Derived.Test.YtikaoikladbdpaaGreatG2016
import Derived.Test.YtikaoikladbdpaaGreatTrnC16m
import Derived.Test.YtikaoikladbdpaaGreatG2316
import Derived.Laws.CopyRow
import Derived.Deep.RegionHeld3
import Derived.RangeFuncNested
import Derived.RangeFuncBound
import Derived.RangeFuncCalls
import Derived.RangeFuncLeaves
import Derived.RangeFuncBox
import Derived.Shelf.Abstract
import Derived.Shelf.RegionOpen
import Derived.OwnWalkIn
import Derived.TacticsInMore
import Derived.LoopNIn
import Derived.LoopIn
import Derived.Maps.AppendAt
import Derived.MapKept
import Derived.Carry
namespace Go.Proofs.YtikaoikladbdpaaGreat
open Go.RowKit Go.Lib

theorem wpList_copy_known {P : Program} (w : World) {ops : Array Oper} {rest : List Oper} {o : Oper} {a : Act} {Q : Exit → Act → World → Prop} (hgd : o.guard = none) (d s : Operand) (t t' : TypeId)
    (ho : o.op = .call { callee := .builtin .copy, args := #[d, s], argTypes := #[t, t'] }) (v u : Value) (hd : a.eval d = v) (hs : a.eval s = u) {v' : Value} {w' : World}
    (hr : (Builtin.copy_ #[t, t'] o.type #[v, u]).run P w = .ok v' w') (h : wpList P ops Q rest (a.put o.dst v') w') : wpList P ops Q (o :: rest) a w :=
  wpList_plain hgd fun K hK => by
    unfold Oper.wp
    simp [execOp, ho, resolve, invoke, builtin, hd, hs, hr, Result.andThen]
    exact hK _ _ h

def PRow (w : World) (b : Nat) (os : List (Int × Int)) : Prop := w.heap[b]? = some (.cells (flatO os).toArray 38 (0, 0))
def IW (w : World) (b : Nat) (l : List M2.It3) : Prop := w.heap[b]? = some (.cells (M2.fi l).toArray 68 (0, 0))

theorem fi_set (l : List M2.It3) (i : Nat) (a b c : Int) : (((M2.fi l).set (i * 3) (.int .i64 a)).set (i * 3 + 1) (.int .i64 b)).set (i * 3 + 2) (.int .i64 c) = M2.fi (l.set i (a, b, c)) := by
  induction l generalizing i with
  | nil => rfl
  | cons o os ih =>
    cases i with
    | zero => simp [M2.fi]
    | succ i =>
      have := ih i
      rw [show (i + 1) * 3 = i * 3 + 3 by omega, show i * 3 + 3 + 1 = i * 3 + 1 + 3 by omega, show i * 3 + 3 + 2 = i * 3 + 2 + 3 by omega]
      simpa [M2.fi, List.flatMap_cons] using this

section
variable {w w' : World} {b i n : Nat} {os rs : List (Int × Int)} {l : List M2.It3}
theorem PRow.lt (h : PRow w b os) : b < w.heap.size := lt_of_block h
theorem PRow.keep (h : PRow w b os) (hb : w'.heap[b]? = w.heap[b]?) : PRow w' b os := hb.trans h
theorem PRow.free (h : PRow w b os) (j : Nat) : w.frozen? ⟨b, j, none⟩ = false := by unfold PRow at h; simp [World.frozen?, h]
theorem PRow.cells (h : PRow w b os) (hi : i < os.length) : w.cell? ⟨b, i * 2, none⟩ = some (.int .u8 (os.getD i (0, 0)).1) ∧ w.cell? ⟨b, i * 2 + 1, none⟩ = some (.int .i32 (os.getD i (0, 0)).2) := by
  obtain ⟨h1, h2⟩ := flatO_at os i hi
  unfold PRow at h
  simp [World.cell?, h, h1, h2]
theorem PRow.set2 (h : PRow w b os) (i : Nat) (c x : Int) : PRow ((w.setCell ⟨b, i * 2, none⟩ (.int .u8 c)).setCell ⟨b, i * 2 + 1, none⟩ (.int .i32 x)) b (os.set i (c, x)) := by
  unfold PRow at h ⊢
  rw [heap_setCell_same _ b _ _ _ _ (heap_setCell_same w b _ _ _ _ h), ← flatO_set]
  simp
theorem PRow.ops (h : PRow w b os) : OpsAt w (some ⟨b, 0, none⟩) os.length os := ⟨rfl, fun _ => ⟨b, 0, rfl, h.lt, fun i hi => by simpa using h.cells hi⟩⟩
theorem IW.lt (h : IW w b l) : b < w.heap.size := lt_of_block h
theorem IW.keep (h : IW w b l) (hb : w'.heap[b]? = w.heap[b]?) : IW w' b l := hb.trans h
theorem IW.free (h : IW w b l) (j : Nat) : w.frozen? ⟨b, j, none⟩ = false := by unfold IW at h; simp [World.frozen?, h]
theorem IW.cells (h : IW w b l) (hi : i < l.length) : w.cell? ⟨b, i * 3, none⟩ = some (.int .i64 (l.getD i (0, 0, 0)).1) ∧ w.cell? ⟨b, i * 3 + 1, none⟩ = some (.int .i64 (l.getD i (0, 0, 0)).2.1) ∧ w.cell? ⟨b, i * 3 + 2, none⟩ = some (.int .i64 (l.getD i (0, 0, 0)).2.2) := by
  obtain ⟨h1, h2, h3⟩ := M2.fi_at l i hi
  unfold IW at h
  simp [World.cell?, h, h1, h2, h3]
theorem IW.set3 (h : IW w b l) (i : Nat) (x y z : Int) : IW (((w.setCell ⟨b, i * 3, none⟩ (.int .i64 x)).setCell ⟨b, i * 3 + 1, none⟩ (.int .i64 y)).setCell ⟨b, i * 3 + 2, none⟩ (.int .i64 z)) b (l.set i (x, y, z)) := by
  unfold IW at h ⊢
  rw [heap_setCell_same _ b _ _ _ _ (heap_setCell_same _ b _ _ _ _ (heap_setCell_same w b _ _ _ _ h)), ← fi_set]
  simp
theorem IW.its (h : IW w b l) : M2.Its w (some ⟨b, 0, none⟩) l.length l := ⟨rfl, fun _ => ⟨b, 0, rfl, h.lt, fun j u hu => by
  unfold IW at h
  simp [World.cell?, h, hu]⟩⟩
theorem IW.row {M : Nat} (h : IW w b l) (hM : M ≤ b) (hn : l.length ≤ 1000) : M2.BR M w (.slice (some ⟨b, 0, none⟩) l.length l.length) l := by
  refine ⟨by rw [M2.fi_length], .inr ⟨b, l.length, (M2.fi l).toArray, rfl, hM, h, Nat.le_refl _, by simp only [maxLen]; omega, by simp [M2.fi_length], by rw [List.take_of_length_le (by simp [M2.fi_length])]⟩⟩

theorem its_off {F : Nat → Prop} {ao : Option Addr} (h : M2.Its w ao n l) (hF : 0 < n → Off F ao) (hb : Wrote F w w') : M2.Its w' ao n l := by
  refine ⟨h.1, fun hp => ?_⟩
  obtain ⟨b, off, e, hl, hc⟩ := h.2 hp
  refine ⟨b, off, e, Nat.lt_of_lt_of_le hl hb.size, fun j u hu => ?_⟩
  rw [← hc j u hu]
  have hf : ¬ F b := hF hp ⟨b, off, Option.none⟩ e
  exact hb.cell (p := ⟨b, off + j, Option.none⟩) hl hf
theorem madeOps {n : Nat} (ho : w'.ownsRow w.heap.size 38 2 (.slice (some ⟨w.heap.size, 0, none⟩) n n) n (madeCells (Value.agg #[.int .u8 0, .int .i32 0]).cells (n * 2)).toList) (hg : w.grownBy w' none) :
    PRow w' w.heap.size (List.replicate n (0, 0)) ∧ Below w.heap.size w w' := by
  refine ⟨?_, (Below.refl _ _).grown hg (Nat.le_refl _) (by simp)⟩
  rw [made_two] at ho
  rcases ho.2 with ⟨h', _⟩ | ⟨g', cap', cur, h', _, hgg, _, _, hcs, htake⟩
  · simp at h'
  · simp only [Value.slice.injEq, Option.some.injEq, Addr.mk.injEq, and_true, true_and] at h'
    obtain ⟨rfl, rfl⟩ := h'
    unfold PRow
    rw [hgg, ← htake, List.take_of_length_le (by simp; omega)]
theorem made_three (n : Nat) : (madeCells (Value.agg #[.int .i64 0, .int .i64 0, .int .i64 0]).cells (n * 3)).toList = M2.fi (List.replicate n (0, 0, 0)) := by
  apply List.ext_getElem?
  intro j
  by_cases hj : j < n * 3
  · have h2 := M2.fi_at (List.replicate n (0, 0, 0)) (j / 3) (by simp; omega)
    have hd : (List.replicate n ((0, 0, 0) : M2.It3)).getD (j / 3) (0, 0, 0) = (0, 0, 0) := by simp [List.getD, show j / 3 < n by omega]
    rw [hd] at h2
    have e : (madeCells (Value.agg #[.int .i64 0, .int .i64 0, .int .i64 0]).cells (n * 3)).toList[j]? = some (Value.int .i64 0) := by
      simp only [madeCells, Value.cells]
      rcases (show j % 3 = 0 ∨ j % 3 = 1 ∨ j % 3 = 2 by omega) with h | h | h <;> simp [hj, h]
    rw [e]
    rcases (show j = j / 3 * 3 ∨ j = j / 3 * 3 + 1 ∨ j = j / 3 * 3 + 2 by omega) with h | h | h
    · rw [h]; exact h2.1.symm
    · rw [h]; exact h2.2.1.symm
    · rw [h]; exact h2.2.2.symm
  · rw [List.getElem?_eq_none (by simp [madeCells]; omega), List.getElem?_eq_none (by rw [M2.fi_length]; simp; omega)]
theorem madeItems {n : Nat} (ho : w'.ownsRow w.heap.size 68 3 (.slice (some ⟨w.heap.size, 0, none⟩) n n) n (madeCells (Value.agg #[.int .i64 0, .int .i64 0, .int .i64 0]).cells (n * 3)).toList) (hg : w.grownBy w' none) :
    IW w' w.heap.size (List.replicate n (0, 0, 0)) ∧ Below w.heap.size w w' := by
  refine ⟨?_, (Below.refl _ _).grown hg (Nat.le_refl _) (by simp)⟩
  rw [made_three] at ho
  rcases ho.2 with ⟨h', _⟩ | ⟨g', cap', cur, h', _, hgg, _, _, hcs, htake⟩
  · simp at h'
  · simp only [Value.slice.injEq, Option.some.injEq, Addr.mk.injEq, and_true, true_and] at h'
    obtain ⟨rfl, rfl⟩ := h'
    unfold IW
    rw [hgg, ← htake, List.take_of_length_le (by simp; omega)]

theorem flatO_one (os : List (Int × Int)) : ∀ u ∈ flatO os, u.oneCell' = true := by
  intro u hu
  simp only [flatO, List.mem_flatMap, List.mem_cons, List.not_mem_nil, or_false] at hu
  obtain ⟨i, _, rfl | rfl⟩ := hu <;> rfl
theorem copy_res {P : Program} (w : World) (t ty e : TypeId) (b g n : Nat) {os rs : List (Int × Int)} (ht : P.underlying t = some (.slice e)) (hs : (P.info? e).map (·.size) = some 2) (hb : RRow w b os) (hg : RRow w g rs) (ho : os.length = n) (hr : rs.length = n) :
    ∃ w', (Builtin.copy_ #[t, t] ty #[.slice (some ⟨b, 0, none⟩) n n, .slice (some ⟨g, 0, none⟩) n n]).run P w = .ok (goInt n) w' ∧ RRow w' b rs ∧ Wrote (fun q => q = b) w w' := by
  have hsrc : ∀ j v, (flatO rs)[j]? = some v → w.cell? ((⟨g, 0, none⟩ : Addr).add j) = some v := fun j v hv => by
    rw [Addr.add_lit, Nat.zero_add]
    unfold RRow at hg
    simp [World.cell?, hg, hv]
  have hl := run_loadCells_list (P := P) w ⟨g, 0, none⟩ (flatO rs) hsrc
  have hst := run_storeCells_at P b 0 74 (flatO rs) 0 (flatO os).toArray w hb (by simp [flatO_length, ho, hr]) (flatO_one rs)
  refine ⟨_, ?_, setRow_heap w b _ _ _ _ hb, ?_⟩
  rotate_left
  · refine ⟨rfl, rfl, rfl, by simp [World.setRow], fun q hq hne => ?_⟩
    simp [World.setRow, Array.getElem?_modify, Ne.symm hne]
  cases hq : P.info? e with
  | none => simp [hq] at hs
  | some i =>
    have hi : i.size = 2 := by simpa [hq] using hs
    have hm : (flatO rs).length = Nat.min n n * 2 := by rw [flatO_length, hr]; simp
    simp [Builtin.copy_, run_underlying ht, Builtin.lenOf, Builtin.firstCells, sizeOf, typeInfo, hq, hi]
    rw [show n * 2 = (flatO rs).length by rw [flatO_length, hr], hl]
    simp only [Result.andThen_ok, hst]
    have e : (List.take (0 + 0) (flatO os).toArray.toList ++ flatO rs ++ List.drop (0 + 0 + (flatO rs).length) (flatO os).toArray.toList).toArray = (flatO rs).toArray := by
      rw [List.drop_eq_nil_of_le (by simp [flatO_length, ho, hr])]
      simp
    rw [e]
end

end Go.Proofs.YtikaoikladbdpaaGreat
namespace Go.Proofs.YtikaoikladbdpaaGreat
open Go.RowKit Go.Lib

theorem infoOp16 : (Tryz.prog.info? 38).map (fun i => (i.zero, i.size, i.bytes)) = some (some (.agg #[.int .u8 0, .int .i32 0]), 2, 8) := by kernel_rfl
theorem infoRes16 : (Tryz.prog.info? 74).map (fun i => (i.zero, i.size, i.bytes)) = some (some (.agg #[.int .u8 0, .int .i32 0]), 2, 8) := by kernel_rfl
theorem sizeRes16 : (Tryz.prog.info? 74).map (·.size) = some 2 := by kernel_rfl
theorem infoItm16 : (Tryz.prog.info? 68).map (fun i => (i.zero, i.size, i.bytes)) = some (some (.agg #[.int .i64 0, .int .i64 0, .int .i64 0]), 3, 24) := by kernel_rfl

def opW (i : M2.It3) : Int × Int := (M2.rK i.2.1, M2.rV i.2.1)
def opsW (l : List M2.It3) : List (Int × Int) := l.map opW
theorem opsW_length (l : List M2.It3) : (opsW l).length = l.length := by simp [opsW]
theorem opW_ok (i : M2.It3) : OpOk (opW i) := by
  unfold opW M2.rK M2.rV
  by_cases h : M2.okW i.2.1 = true
  · rw [if_pos h, if_pos h]
    have h' := of_decide_eq_true h
    exact ⟨M2.kd_bd _, M2.vl_bd h'.1 h'.2⟩
  · rw [if_neg h, if_neg h]
    exact ⟨by decide, by decide⟩
theorem opsW_ok (l : List M2.It3) : ∀ o ∈ opsW l, OpOk o := fun o ho => by
  unfold opsW at ho
  rw [List.mem_map] at ho
  obtain ⟨i, _, rfl⟩ := ho
  exact opW_ok i
def opsJ (l : List M2.It3) : Nat → List (Int × Int)
  | 0 => List.replicate l.length (0, 0)
  | j + 1 => (opsJ l j).set j (opW (l.getD j (0, 0, 0)))
theorem opsJ_length (l : List M2.It3) : ∀ j, (opsJ l j).length = l.length
  | 0 => by simp [opsJ]
  | j + 1 => by simp [opsJ, opsJ_length l j]
theorem opsJ_at (l : List M2.It3) : ∀ j, j ≤ l.length → (opsJ l j).take j = (opsW l).take j
  | 0, _ => by simp
  | j + 1, h => by
    have ih := opsJ_at l j (by omega)
    have hj : j < l.length := by omega
    rw [show opsJ l (j + 1) = (opsJ l j).set j (opW (l.getD j (0, 0, 0))) from rfl, List.take_succ_eq_append_getElem (by simp [opsJ_length]; omega), List.take_succ_eq_append_getElem (by simp [opsW_length]; omega), List.take_set_of_le (Nat.le_refl _), ih]
    simp [opsW, List.getD, hj]
theorem opsJ_all (l : List M2.It3) : opsJ l l.length = opsW l := by
  have h := opsJ_at l l.length (Nat.le_refl _)
  rwa [List.take_of_length_le (by rw [opsJ_length]; exact Nat.le_refl _), List.take_of_length_le (by rw [opsW_length]; exact Nat.le_refl _)] at h

def toldI (i : M2.It3) (r : Int × Int) : M2.It3 := (i.1, i.2.1, M2.wd r.1 r.2)
def srvL (l : List M2.It3) (rs : List (Int × Int)) : List M2.It3 := l.zipWith toldI rs
theorem srvL_length {l : List M2.It3} {rs : List (Int × Int)} (h : rs.length = l.length) : (srvL l rs).length = l.length := by simp [srvL, h]
def srvJ (l : List M2.It3) (rs : List (Int × Int)) : Nat → List M2.It3
  | 0 => List.replicate l.length (0, 0, 0)
  | j + 1 => (srvJ l rs j).set j (toldI (l.getD j (0, 0, 0)) (rs.getD j (0, 0)))
theorem srvJ_length (l : List M2.It3) (rs : List (Int × Int)) : ∀ j, (srvJ l rs j).length = l.length
  | 0 => by simp [srvJ]
  | j + 1 => by simp [srvJ, srvJ_length l rs j]
theorem srvJ_at {l : List M2.It3} {rs : List (Int × Int)} (hr : rs.length = l.length) : ∀ j, j ≤ l.length → (srvJ l rs j).take j = (srvL l rs).take j
  | 0, _ => by simp
  | j + 1, h => by
    have ih := srvJ_at hr j (by omega)
    have hj : j < l.length := by omega
    have hj' : j < rs.length := by omega
    rw [show srvJ l rs (j + 1) = (srvJ l rs j).set j (toldI (l.getD j (0, 0, 0)) (rs.getD j (0, 0))) from rfl, List.take_succ_eq_append_getElem (by simp [srvJ_length]; omega), List.take_succ_eq_append_getElem (by rw [srvL_length hr]; omega), List.take_set_of_le (Nat.le_refl _), ih]
    simp [srvL, List.getD, hj, hj']
theorem srvJ_all {l : List M2.It3} {rs : List (Int × Int)} (hr : rs.length = l.length) : srvJ l rs l.length = srvL l rs := by
  have h := srvJ_at hr l.length (Nat.le_refl _)
  rwa [List.take_of_length_le (by rw [srvJ_length]; exact Nat.le_refl _), List.take_of_length_le (by rw [srvL_length hr]; exact Nat.le_refl _)] at h

theorem ofOpA (n : Int) (w : World) : Calls Tryz.prog 117 #[.int .i64 n] w fun e w' => ∃ ok, e = .returned (.tuple #[.agg #[.int .u8 (M2.rK n), .int .i32 (M2.rV n)], .bool ok]) ∧ Below w.heap.size w w' := by
  by_cases h : 1 ≤ n ∧ n ≤ 1099511627776
  · have e : M2.okW n = true := decide_eq_true h
    rw [show M2.rK n = M2.kd n from if_pos e, show M2.rV n = M2.vl n from if_pos e]
    exact (M2.ofOp n h.1 h.2 w).mono fun e w' ⟨he, hf⟩ => ⟨_, he, hf.below⟩
  · have e : M2.okW n = false := decide_eq_false h
    rw [show M2.rK n = 0 from if_neg (by rw [e]; decide), show M2.rV n = 0 from if_neg (by rw [e]; decide)]
    exact (M2.ofOpNo n (by omega) w).mono fun e w' ⟨he, hf⟩ => ⟨_, he, hf.below⟩

def Srv1 (w : World) (bo n : Nat) (l : List M2.It3) (kv : Value) (wr : World) : Prop := ∃ j : Nat, j ≤ n ∧ kv = .int .i64 (j : Int) ∧ PRow wr bo (opsJ l j) ∧ Below w.heap.size w wr
def Srv2 (w4 : World) (bd n : Nat) (l : List M2.It3) (rs : List (Int × Int)) (kv : Value) (wr : World) : Prop := ∃ j : Nat, j ≤ n ∧ kv = .int .i64 (j : Int) ∧ IW wr bd (srvJ l rs j) ∧ Wrote (fun q => q = bd) w4 wr
def SrvPost (w : World) (F : Nat → Prop) (o : Nat) (k m : Int) (pl : Bool) (s : List It × List Bool) (n : Nat) (l : List M2.It3) (e : Ending) (w' : World) : Prop :=
  ∃ b F', e = .returned (.slice (some ⟨b, 0, none⟩) n n) ∧ IW w' b (srvL l (batT k m (vals s.1) (opsW l))) ∧ w.heap.size ≤ b ∧ Ob w' F' o k m pl (objS k m s (opsW l)) ∧ ¬ F' b ∧ Wrote F w w' ∧ Later F F' w

set_option maxRecDepth 100000 in
set_option maxHeartbeats 16000000 in
theorem servedAny {w : World} {F : Nat → Prop} {o : Nat} {k m : Int} {pl : Bool} {s : List It × List Bool} (h : Ob w F o k m pl s) (hs : V32 (vals s.1)) (ao : Option Addr) (n cap : Nat) (l : List M2.It3) (hi : M2.Its w ao n l) (hF : 0 < n → Off F ao) (hn : n ≤ 1000) :
    Calls Tryz.prog 111 #[.pointer (some ⟨o, 0, none⟩), .slice ao n cap] w (SrvPost w F o k m pl s n l) := by
  obtain ⟨j0, hj, hy0, hy1, hy2⟩ := info_parts infoOp16
  obtain ⟨i0, hi', hz0, hz1, hz2⟩ := info_parts infoRes16
  obtain ⟨q0, hq, hx0, hx1, hx2⟩ := info_parts infoItm16
  have H := Lib.hid h
  have HI := Lib.hid hi
  have HF := Lib.hid hF
  have HS := Lib.hid hs
  have hln := hi.1
  clear h hi hF hs
  go_enter Tryz.func111, Tryz.ntmps111
  go_upto_region 2 with (at_make; refine wpList_make_full _ rfl _ _ 64 rfl w.heap.size 38 j0 _ 2 Tryz.underlying64 hj hy0 hy1 .i64 .i64 _ _ n rfl rfl rfl rfl (by rw [hy2]; omega) (by simp only [maxLen]; omega) (Nat.le_refl _) ?_; intro w1 hown hgrow; have HM := Lib.hid (madeOps hown hgrow); clear hown hgrow)
  go_upto_region 3 with (fail)
  have HL0 := Lib.hid (show Srv1 w w.heap.size n l (.int .i64 ((0 : Nat) : Int)) w1 from ⟨0, Nat.zero_le _, rfl, by unfold opsJ; rw [hln]; exact HM.out.1, HM.out.2⟩)
  go_loopw [17] (fun kv wr => Srv1 w w.heap.size n l kv wr) (fun kv _ => n - (intOf kv).toNat)
  case atStart => exact HL0.out
  case round =>
    obtain ⟨j, hjn, rfl, HK, HB⟩ := hrel
    by_cases hlt : j < n
    · have hlt' : (j : Int) < (n : Int) := by omega
      obtain ⟨b, off, rfl, hbl, hcs⟩ := (HI.out.keep HB).2 (by omega)
      obtain ⟨f0, f1, f2⟩ := M2.fi_at l j (by rw [hln]; exact hlt)
      have p0 := hcs _ _ f0
      have p1 := hcs _ _ f1
      have p2 := hcs _ _ f2
      rw [← Nat.add_assoc] at p1 p2
      obtain ⟨i, hii⟩ : ∃ i, l.getD j (0, 0, 0) = i := ⟨_, rfl⟩
      rw [hii] at p0 p1 p2
      have HII := Lib.hid hii
      have HKK := Lib.hid HK
      have HBB := Lib.hid HB
      clear hcs f0 f1 f2 hii HK HB
      go_wp2_with fail
      with_reducible refine (ofOpA i.2.1 _).mono ?_
      rintro e w3 ⟨ok, rfl, b3⟩
      have hb3 : Below wr.heap.size wr w3 := ((Below.refl _ _).alloc (Nat.le_refl _) _).trans (b3.mono (by simp))
      have HK3 := HKK.out.keep (hb3.block _ HKK.out.lt)
      obtain ⟨c0, c1⟩ := HK3.cells (i := j) (by rw [opsJ_length, hln]; exact hlt)
      have cf := HK3.free
      have HN := Lib.hid (HK3.set2 j (M2.rK i.2.1) (M2.rV i.2.1))
      have HB3 := Lib.hid ((HBB.out.trans (hb3.mono HBB.out.size)))
      clear p0 p1 p2 b3 hb3 HK3
      go_wp2
      go_roundw
      case rel => exact ⟨j + 1, by omega, by go_num, (by rw [show opsJ l (j + 1) = (opsJ l j).set j (M2.rK i.2.1, M2.rV i.2.1) by rw [← HII.out]; rfl]; exact HN.out), (HB3.out.setCell (Nat.le_refl _) _).setCell (Nat.le_refl _) _⟩
      case measure => simp [intOf]; omega
    · obtain rfl : j = n := by omega
      obtain ⟨V, rfl⟩ : ∃ V, V = wr := ⟨_, rfl⟩
      rw [← hln, opsJ_all] at HK
      have HKK := Lib.hid HK
      have HBB := Lib.hid HB
      clear HK HB
      go_upto_region 8 with (at_make; refine wpList_make_full _ rfl _ _ 69 rfl V.heap.size 74 i0 _ 2 Tryz.underlying69 hi' hz0 hz1 .i64 .i64 _ _ j rfl rfl rfl rfl (by rw [hz2]; omega) (by simp only [maxLen]; omega) (Nat.le_refl _) ?_; intro w2 hown hgrow; have HR := Lib.hid (madeRes hown hgrow); clear hown hgrow)
      have hb2 := HR.out.2
      have h2 := H.out.fresh (HBB.out.mono (Nat.le_refl _) |>.trans (hb2.mono HBB.out.size))
      have ho2 := (HKK.out.keep (hb2.block _ HKK.out.lt)).ops
      rw [opsW_length, hln] at ho2
      have C := obDo h2 (some ⟨w.heap.size, 0, none⟩) j ho2 (fun _ a ha hf => by injection ha with ha; subst ha; exact Nat.lt_irrefl _ (H.out.foot _ hf)) (opsW_ok l) hn
      have HC := Lib.hid C
      clear C h2 ho2 hb2
      go_wp2_with fail
      with_reducible refine HC.out.mono ?_
      rintro e w3 ⟨g, F', rfl, r3, hg, o3, nf, wr3, lt3⟩
      obtain ⟨rs, hrs⟩ : ∃ rs, batT k m (vals s.1) (opsW l) = rs := ⟨_, rfl⟩
      have hrl : rs.length = j := by rw [← hrs, batT_length, opsW_length, hln]
      have hrok : ∀ r ∈ rs, OpOk r := by rw [← hrs]; exact batT_ok HS.out (opsW_ok l)
      rw [hrs] at r3
      have sz1 := HBB.out.size
      have hbt3 : RRow w3 V.heap.size (List.replicate j (0, 0)) := (wr3.block _ HR.out.1.lt (fun hf => by have := H.out.foot _ hf; omega)).trans HR.out.1
      have ia2 := (HI.out.keep (HBB.out.trans (HR.out.2.mono sz1)))
      have ia3 := its_off ia2 HF.out wr3
      obtain ⟨w4, hcp, r4, wr4⟩ := copy_res (P := Tryz.prog) w3 69 3 74 V.heap.size g j Tryz.underlying69 sizeRes16 hbt3 r3 (by simp) hrl
      have hia : 0 < j → ∀ a, ao = some a → a.block < w.heap.size := fun hp a ha => by obtain ⟨b, off, e, hl, _⟩ := HI.out.2 hp; rw [e] at ha; injection ha with ha; subst ha; exact hl
      have ia4 := its_off ia3 (F := fun q => q = V.heap.size) (fun hp a ha e => by have := hia hp a ha; have e : a.block = V.heap.size := e; omega) wr4
      have HA4 := Lib.hid ia4
      have HR4 := Lib.hid r4
      have HO3 := Lib.hid (And.intro o3 (And.intro nf (And.intro wr3 lt3)))
      have HW4 := Lib.hid wr4
      have HOK := Lib.hid hrok
      have HRS := Lib.hid hrs
      have HIA := Lib.hid hia
      have HBT := Lib.hid (show V.heap.size < w3.heap.size from hbt3.lt)
      have HB2 := Lib.hid (HBB.out.trans (HR.out.2.mono sz1))
      clear hbt3 ia2 ia3 ia4 r4 o3 nf wr3 lt3 wr4 hrok hrs hia HC r3
      rw [opsW_length, hln]
      go_upto_region 11 with (first
        | (at_builtin; refine wpList_copy_known _ rfl _ _ 69 69 rfl _ _ rfl rfl hcp ?_)
        | (at_make; refine wpList_make_full _ rfl _ _ 23 rfl w4.heap.size 68 q0 _ 3 Tryz.underlying23 hq hx0 hx1 .i64 .i64 _ _ j rfl rfl rfl rfl (by rw [hx2]; omega) (by simp only [maxLen]; omega) (Nat.le_refl _) ?_; intro w5 hown hgrow; have HQ := Lib.hid (madeItems hown hgrow); clear hown hgrow))
      have HA5 := Lib.hid (HA4.out.keep HQ.out.2)
      have HR5 := Lib.hid (HR4.out.below HQ.out.2)
      go_loopw [45] (fun kv wr => Srv2 w5 w4.heap.size j l rs kv wr) (fun kv _ => j - (intOf kv).toNat)
      case atStart => exact ⟨0, Nat.zero_le _, rfl, by unfold srvJ; rw [hln]; exact HQ.out.1, Wrote.refl _ _⟩
      case round =>
        obtain ⟨i, hin, rfl, HK, HW⟩ := hrel
        have HKK := Lib.hid HK
        have HWW := Lib.hid HW
        clear HK HW
        by_cases hlt : i < j
        · have hlt' : (i : Int) < (j : Int) := by omega
          obtain ⟨b, off, rfl, hbl, hcs⟩ := (its_off HA5.out (fun hp a ha e => by have := HIA.out hp a ha; have e : a.block = w4.heap.size := e; have := HBT.out; have := HW4.out.size; omega) HWW.out).2 (by omega)
          obtain ⟨f0, f1, f2⟩ := M2.fi_at l i (by rw [hln]; exact hlt)
          have p0 := hcs _ _ f0
          have p1 := hcs _ _ f1
          have p2 := hcs _ _ f2
          rw [← Nat.add_assoc] at p1 p2
          obtain ⟨y, hy⟩ : ∃ y, l.getD i (0, 0, 0) = y := ⟨_, rfl⟩
          rw [hy] at p0 p1 p2
          have HY := Lib.hid hy
          have HRq : RRow wr V.heap.size rs := (HWW.out.block _ HR5.out.lt (fun e => by have e : V.heap.size = w4.heap.size := e; have := HBT.out; have := HW4.out.size; omega)).trans HR5.out
          have hba := (Below.refl wr.heap.size wr).alloc (Nat.le_refl _) (.cells #[.int .i64 y.1, .int .i64 y.2.1, .int .i64 y.2.2] 68)
          have HRa := HRq.below hba
          obtain ⟨c0, c1⟩ := HRa.cells (i := i) (by omega)
          obtain ⟨r, hr⟩ : ∃ r, rs.getD i (0, 0) = r := ⟨_, rfl⟩
          rw [hr] at c0 c1
          have HRR := Lib.hid hr
          have hok := getD_ok HOK.out i
          rw [hr] at hok
          obtain ⟨⟨k0, k1⟩, v0, v1⟩ := hok
          have HB := Lib.hid hba
          clear hcs f0 f1 f2 hy hr HRq HRa hba
          go_wp2_with fail
          with_reducible refine (M2.wordRes r.1 r.2 k0 k1 v0 v1 _).mono ?_
          rintro e w6 ⟨rfl, hf⟩
          have hb6 := HB.out.trans (hf.below.mono HB.out.size)
          have I6 := Lib.hid (show M2.IB w6 wr.heap.size y from (hf.below.block _ (by simp)).trans (M2.IB.new wr y))
          have R6 := Lib.hid (HKK.out.keep (hb6.block _ HKK.out.lt))
          have W6 := Lib.hid (HWW.out.trans (Wrote.of hb6 _))
          have HNE := Lib.hid (show w4.heap.size < wr.heap.size from HKK.out.lt)
          have d2 := I6.out.c2
          have df := I6.out.f
          clear p0 p1 p2 hf hb6 c0 c1 k0 k1 v0 v1
          go_upto_region 14 with (fail)
          generalize hw7 : w6.setCell ⟨wr.heap.size, 2, none⟩ (.int .i64 (M2.wd r.1 r.2)) = w7
          have I7 : M2.IB w7 wr.heap.size (y.1, y.2.1, M2.wd r.1 r.2) := by
            subst hw7
            have h := I6.out
            unfold M2.IB at h ⊢
            rw [heap_setCell_same w6 _ 2 _ _ _ h]
            rfl
          have R7 : IW w7 w4.heap.size (srvJ l rs i) := by subst hw7; exact (Below.heap_setCell _ _ _ _ (by have := HNE.out; exact Nat.ne_of_lt this)).trans R6.out
          have W7 := Lib.hid (show Wrote (fun q => q = w4.heap.size) w5 w7 by subst hw7; exact W6.out.setCell (.inl (by have := HWW.out.size; exact this)) _)
          have e0 := I7.c0
          have e1 := I7.c1
          have e2 := I7.c2
          obtain ⟨g0, g1, g2⟩ := R7.cells (i := i) (by rw [srvJ_length, hln]; exact hlt)
          have gf := R7.free
          have HN := Lib.hid (R7.set3 i y.1 y.2.1 (M2.wd r.1 r.2))
          clear hw7 I7 R7 d2 df
          go_wp2
          go_roundw
          case rel => exact ⟨i + 1, by omega, by go_num, (by rw [show srvJ l rs (i + 1) = (srvJ l rs i).set i (y.1, y.2.1, M2.wd r.1 r.2) by rw [← HY.out, ← HRR.out]; rfl]; exact HN.out), ((W7.out.setCell (.inr rfl) _).setCell (.inr rfl) _).setCell (.inr rfl) _⟩
          case measure => simp [intOf]; omega
        · obtain rfl : i = j := by omega
          have hk := HKK.out
          rw [← hln, srvJ_all (by rw [hrl, hln])] at hk
          have HK := Lib.hid hk
          clear hk
          go_wp2
          go_ret
          obtain ⟨o3, nf, wr3, lt3⟩ := HO3.out
          have sz1 := HBB.out.size
          have hB := HB2.out
          have w23 : Wrote F w w3 := (Wrote.of hB F).trans wr3
          have hw4 := HW4.out
          have hbt := HBT.out
          have far : ∀ {q : Nat}, F' q → q ≠ V.heap.size ∧ q ≠ w4.heap.size := fun {q} hf => by
            have hq : q < w3.heap.size := o3.foot q hf
            refine ⟨fun e => ?_, fun e => ?_⟩
            · rcases lt3 q hf with h1 | h1
              · have := H.out.foot q h1; omega
              · have := HR.out.1.lt; omega
            · have := hw4.size; omega
          have o4 : Ob w4 F' o k m pl (objS k m s (opsW l)) := o3.apart hw4 (fun q hf e => (far hf).1 e)
          have o5 := o4.fresh HQ.out.2
          have o6 := o5.apart HWW.out (fun q hf e => (far hf).2 e)
          refine ⟨w4.heap.size, F', rfl, by rw [HRS.out]; exact HK.out, by have := hw4.size; omega, o6, fun hf => (far hf).2 rfl, ?_, fun q hf => (lt3 q hf).imp id (fun h => by have := HB2.out.size; omega)⟩
          refine ⟨?_, ?_, ?_, ?_, fun q hq hF' => ?_⟩
          · exact HWW.out.os.trans (HQ.out.2.os.trans (hw4.os.trans w23.os))
          · exact HWW.out.tape.trans (HQ.out.2.tape.trans (hw4.tape.trans w23.tape))
          · exact HWW.out.output.trans (HQ.out.2.output.trans (hw4.output.trans w23.output))
          · exact Nat.le_trans w23.size (Nat.le_trans hw4.size (Nat.le_trans HQ.out.2.size HWW.out.size))
          · have q3 := Nat.lt_of_lt_of_le hq w23.size
            have q4 := Nat.lt_of_lt_of_le q3 hw4.size
            have q5 := Nat.lt_of_lt_of_le q4 HQ.out.2.size
            exact (HWW.out.block q q5 (fun e => by have e : q = w4.heap.size := e; omega)).trans ((HQ.out.2.block q q4).trans ((hw4.block q q3 (fun e => by have e : q = V.heap.size := e; omega)).trans (w23.block q hq hF')))

end Go.Proofs.YtikaoikladbdpaaGreat
namespace Go.Proofs.YtikaoikladbdpaaGreat.M2
open Go.RowKit

theorem infoItem : (Tryz.prog.info? 68).map (fun i => (i.zero, i.size, i.bytes)) = some (some (.agg #[.int .i64 0, .int .i64 0, .int .i64 0]), 3, 24) := by kernel_rfl

set_option maxRecDepth 100000 in
set_option maxHeartbeats 1600000 in
theorem cloneR (w : World) (ao : Option Addr) (n cap : Nat) (l : List (Int × Int × Int)) (h : Its w ao n l) (hn : n ≤ 1000000) (hc : ao = none → cap = 0) :
    Calls Tryz.prog 47 #[.slice ao n cap] w fun e w' => ∃ v, e = .returned v ∧ BR w.heap.size w' v l ∧ Below w.heap.size w w' := by
  obtain ⟨i0, hi, hz0, hz1, hz2⟩ := info_parts infoItem
  cases ao with
  | none =>
    have hn0 : n = 0 := by
      rcases Nat.eq_zero_or_pos n with h1 | h1
      · exact h1
      · obtain ⟨b, off, e, _⟩ := h.2 h1
        cases e
    subst hn0
    obtain rfl := hc rfl
    have he : ∀ w, (binOp .eql 23 (.slice none 0 0) (.slice none 0 0)).run Tryz.prog w = .ok (.bool true) w := fun _ => rfl
    have H := Lib.hid h
    clear h
    go_enter Tryz.func47, Tryz.ntmps47
    go_wp2
    go_ret
    have hl0 : l = [] := List.eq_nil_of_length_eq_zero H.out.1
    exact ⟨_, rfl, by rw [hl0]; exact BR.nil _ _, Below.refl _ _⟩
  | some ad =>
    have H := Lib.hid h
    have HI := Lib.hid hi
    have H0 := Lib.hid hz0
    have H1 := Lib.hid hz1
    have H2 := Lib.hid hz2
    clear h hi hz0 hz1 hz2 hc
    have he : ∀ w, (binOp .eql 23 (.slice (some ad) n cap) (.slice none 0 0)).run Tryz.prog w = .ok (.bool false) w := fun _ => rfl
    go_enter Tryz.func47, Tryz.ntmps47
    have HO := Lib.hid (show (w.alloc (.cells #[] 68)).ownsRow w.heap.size 68 3 (.slice (some ⟨w.heap.size, 0, none⟩) 0 0) 0 [] from ⟨rfl, .inr ⟨w.heap.size, 0, #[], rfl, Nat.le_refl _, heap_alloc_new w _, by simp⟩⟩)
    have HA := Lib.hid (show Below w.heap.size w (w.alloc (.cells #[] 68)) from (Below.refl _ _).alloc (Nat.le_refl _) _)
    have HS := Lib.hid (show ∀ j u, (fi l)[j]? = some u → (w.alloc (.cells #[] 68)).cell? (ad.add j) = some u by
      intro j u hu
      rcases Nat.eq_zero_or_pos n with h0 | h0
      · have : fi l = [] := List.eq_nil_of_length_eq_zero (by rw [fi_length, H.out.1]; omega)
        rw [this] at hu
        simp at hu
      · obtain ⟨ad', e, hc⟩ := (H.out.keep HA.out).src h0
        injection e with e
        subst e
        exact hc j u hu)
    have HN := Lib.hid (fi_length l)
    have HL := Lib.hid H.out.1
    go_upto_region 3 with (fail)
    go_wp2_with (at_builtin; (refine wpList_append_own _ rfl (.tmp 5) (.tmp 6) 23 rfl w.heap.size 68 i0 _ 3 24 Tryz.underlying23 HI.out H0.out H1.out H2.out rfl (by decide) _ 0 [] rfl HO.out ad n cap (fi l) rfl (by rw [HN.out, HL.out]) HS.out (fi_one l) (by simp only [maxLen]; omega) (by omega) (by simp) ?_; intro v' w5 q5 g5 _; rw [Nat.zero_add, List.nil_append] at q5; have H5 := Lib.hid q5; have B5' := Lib.hid (HA.out.grown g5 (by simp) (fun k e => by injection e with e; exact Nat.le_of_eq e)); clear q5 g5))
    go_ret
    exact ⟨v', rfl, by unfold BR; rw [HL.out]; exact H5.out, B5'.out⟩


theorem BR.its {M : Nat} {w : World} {b : Value} {l : List It3} (h : BR M w b l) : ∃ ao cap, b = .slice ao l.length cap ∧ Its w ao l.length l ∧ (∀ a, ao = some a → M ≤ a.block) ∧ (ao = none → cap = 0) ∧ b.ownBlock = ao.map (·.block) := by
  obtain ⟨ao, cap, rfl, h1, h2⟩ := Its.own h
  refine ⟨ao, cap, rfl, h1, h2, fun e => ?_, ?_⟩
  · subst e
    rcases h.2 with ⟨h', _⟩ | ⟨g, cap, cur, h', _⟩
    · injection h'
    · injection h' with h'; cases h'
  · cases ao <;> rfl
end Go.Proofs.YtikaoikladbdpaaGreat.M2
namespace Go.Proofs.YtikaoikladbdpaaGreat
open Go.RowKit Go.Lib

def doL (k m : Int) (s : List It × List Bool) (l : List M2.It3) : List M2.It3 := srvL l (batT k m (vals s.1) (opsW l))
theorem doL_length (k m : Int) (s : List It × List Bool) (l : List M2.It3) : (doL k m s l).length = l.length := srvL_length (by rw [batT_length, opsW_length])

theorem wroteC (w : World) (N j : Nat) (x : Value) : Wrote (fun q => q = N) w (w.setCell ⟨N, j, none⟩ x) := (Wrote.refl (fun q => q = N) w).setCell (q := ⟨N, j, none⟩) (.inr rfl) x

def DoP (w : World) (F : Nat → Prop) (N p : Nat) (t : M2.Th) (o : Nat) (pa : Int) (k m : Int) (pl : Bool) (s : List It × List Bool) (l : List M2.It3) (e : Ending) (w' : World) : Prop :=
  e = .returned (.tuple #[]) ∧ ∃ b' dn' F', M2.TC w' N p { t with nt := 0, pc := 37 } b' (.pointer (some ⟨o, 0, none⟩)) pa dn' ∧ M2.BR w.heap.size w' b' (doL k m s l) ∧ M2.BR w.heap.size w' dn' (doL k m s l) ∧
    Ob w' F' o k m pl (objS k m s (opsW l)) ∧ (∀ g, b'.ownBlock = some g → ¬ F' g) ∧ (∀ g, dn'.ownBlock = some g → ¬ F' g) ∧ ¬ F' N ∧ Wrote (fun g => F g ∨ g = N) w w' ∧ Later F F' w

set_option maxRecDepth 100000 in
set_option maxHeartbeats 4000000 in
theorem doP {w : World} {F : Nat → Prop} {M N p o : Nat} {t : M2.Th} {b dn : Value} {pa k m : Int} {pl : Bool} {s : List It × List Bool} {l : List M2.It3} (x : M2.TC w N p t b (.pointer (some ⟨o, 0, none⟩)) pa dn) (r : M2.BR M w b l) (h : Ob w F o k m pl s) (hs : V32 (vals s.1)) (hN : ¬ F N) (hb : ∀ g, b.ownBlock = some g → ¬ F g) (hl : l.length ≤ 1000) :
    Calls Tryz.prog 88 #[.pointer (some ⟨N, 0, none⟩)] w (DoP w F N p t o pa k m pl s l) := by
  obtain ⟨ao, cap, rfl, hi, _, hc0, hob⟩ := r.its
  have hd : Below w.heap.size w w.drew := (Below.refl _ _).drew
  have C := servedAny (h.fresh hd) hs ao l.length cap l (hi.keep hd) (fun _ a ha hf => hb a.block (by rw [hob, ha]; rfl) hf) hl
  have xd := x.drewN 1
  have i0 : (fun w' : World => w'.cell? ⟨N, 14, none⟩ = some (.pointer (some ⟨o, 0, none⟩)) ∧ w'.cell? ⟨N, 12, none⟩ = some (.slice ao l.length cap)) w.drew := ⟨x.c14, x.c12⟩
  have H := Lib.hid h
  have X := Lib.hid x
  clear x r h hi hob hb xd hd
  go_enter Tryz.func88, Tryz.ntmps88
  go_upto_region 0 with (fail)
  go_region_held3 (fun w' => w'.cell? ⟨N, 14, none⟩ = some (.pointer (some ⟨o, 0, none⟩)) ∧ w'.cell? ⟨N, 12, none⟩ = some (.slice ao l.length cap)) (first | exact i0 | exact i1 | exact i2) (first
    | ((with_reducible refine C.mono ?_); rintro e w2 ⟨g, F', rfl, r2, hg, o2, nf, wr2, lt2⟩; have X2 := Lib.hid (show M2.TC w2 N p t (.slice ao l.length cap) (.pointer (some ⟨o, 0, none⟩)) pa dn from (wr2.block N X.out.lt hN).trans X.out); have i1 : (fun w' : World => w'.cell? ⟨N, 14, none⟩ = some (.pointer (some ⟨o, 0, none⟩)) ∧ w'.cell? ⟨N, 12, none⟩ = some (.slice ao l.length cap)) w2 := ⟨X2.out.c14, X2.out.c12⟩; have X3 := Lib.hid (X2.out.s16 (.slice (some ⟨g, 0, none⟩) l.length l.length)); have i2 : (fun w' : World => w'.cell? ⟨N, 14, none⟩ = some (.pointer (some ⟨o, 0, none⟩)) ∧ w'.cell? ⟨N, 12, none⟩ = some (.slice ao l.length cap)) (w2.setCell ⟨N, 16, none⟩ (.slice (some ⟨g, 0, none⟩) l.length l.length)) := ⟨X3.out.c14, X3.out.c12⟩; have d16 := X2.out.c16; have df := X2.out.f; have HO := Lib.hid (And.intro o2 (And.intro nf (And.intro wr2 lt2))); have HR := Lib.hid (And.intro r2 hg); clear C r2 hg o2 nf wr2 lt2))
  all_goals
    have hne : g ≠ N := fun e => by have := X.out.lt; have := HR.out.2; have : w.drew.heap.size = w.heap.size := rfl; omega
    have R3 := Lib.hid (show IW (w2.setCell ⟨N, 16, none⟩ (.slice (some ⟨g, 0, none⟩) l.length l.length)) g (doL k m s l) from (Below.heap_setCell _ _ _ _ hne).trans HR.out.1)
    obtain ⟨w3, hw3⟩ : ∃ w3, w3 = w2.setCell ⟨N, 16, none⟩ (.slice (some ⟨g, 0, none⟩) l.length l.length) := ⟨_, rfl⟩
    have HW3 := Lib.hid hw3
    rw [← hw3] at X3 R3 ⊢
    clear hw3 i0 i1 i2 d16 df
    have rd := R3.out.its
    rw [doL_length] at rd
    have C3 := M2.cloneR w3 (some ⟨g, 0, none⟩) l.length l.length (doL k m s l) rd (by omega) (fun h => by cases h)
    have HC := Lib.hid C3
    have c16 := X3.out.c16
    clear C3 rd
    go_wp2_with fail
    with_reducible refine HC.out.mono ?_
    clear HC c16
    rintro e w4 ⟨v, rfl, br, b4⟩
    obtain ⟨av, cv, rfl, _⟩ := br.shape
    have X4 := (b4.block N X3.out.lt).trans X3.out
    have X4 : M2.TC w4 N p t (.slice ao l.length cap) (.pointer (some ⟨o, 0, none⟩)) pa (.slice (some ⟨g, 0, none⟩) l.length l.length) := X4
    have X5 := X4.s12 (.slice av (doL k m s l).length cv)
    have X6 := X5.s8 0
    have X7 := Lib.hid (X6.s1 37)
    have c12 := X4.c12
    have f4 := X4.f
    have c8 := X5.c8
    have f5 := X5.f
    have c1 := X6.c1
    have f6 := X6.f
    have HB := Lib.hid b4
    have HV := Lib.hid br
    clear X4 X5 X6 br b4
    go_wp2
    go_end0
    have sz2 := HO.out.2.2.1.size
    have sz3 : w3.heap.size = w2.heap.size := by rw [HW3.out]; simp [World.setCell]
    have szd : w.drew.heap.size = w.heap.size := rfl
    have hg := HR.out.2
    have own : (Value.slice av (doL k m s l).length cv).ownBlock = av.map (·.block) := by cases av <;> rfl
    have vfar : ∀ q, (Value.slice av (doL k m s l).length cv).ownBlock = some q → w3.heap.size ≤ q := fun q hq => (HV.out.lt q hq).1
    have hk : ∀ q, q ≠ N → (((w4.setCell ⟨N, 12, none⟩ (.slice av (doL k m s l).length cv)).setCell ⟨N, 8, none⟩ (.int .i64 0)).setCell ⟨N, 1, none⟩ (.int .i64 37)).heap[q]? = w4.heap[q]? := fun q hq =>
      (Below.heap_setCell _ _ _ _ hq).trans ((Below.heap_setCell _ _ _ _ hq).trans (Below.heap_setCell _ _ _ _ hq))
    have hsz : (((w4.setCell ⟨N, 12, none⟩ (.slice av (doL k m s l).length cv)).setCell ⟨N, 8, none⟩ (.int .i64 0)).setCell ⟨N, 1, none⟩ (.int .i64 37)).heap.size = w4.heap.size := by simp [World.setCell]
    have wl : Wrote (fun q => q = N) w4 (((w4.setCell ⟨N, 12, none⟩ (.slice av (doL k m s l).length cv)).setCell ⟨N, 8, none⟩ (.int .i64 0)).setCell ⟨N, 1, none⟩ (.int .i64 37)) :=
      ((wroteC w4 N 12 _).trans (wroteC _ N 8 _)).trans (wroteC _ N 1 _)
    have w23 : Wrote (fun q => q = N) w2 w3 := by rw [HW3.out]; exact wroteC w2 N 16 _
    obtain ⟨o2, nf, wr2, lt2⟩ := HO.out
    have nN : ¬ F' N := fun hf => by
      rcases lt2 N hf with h1 | h1
      · exact hN h1
      · have := X.out.lt; omega
    have o3 := (o2.apart w23 (fun q hf e => by have e : q = N := e; subst e; exact nN hf)).fresh HB.out
    have o4 := o3.apart wl (fun q hf e => by have e : q = N := e; subst e; exact nN hf)
    refine ⟨rfl, _, _, F', X7.out, ?_, ?_, o4, fun q hq hf => ?_, fun q hq hf => ?_, nN, ?_, ?_⟩
    · have h := HV.out.keep (w' := (((w4.setCell ⟨N, 12, none⟩ (.slice av (doL k m s l).length cv)).setCell ⟨N, 8, none⟩ (.int .i64 0)).setCell ⟨N, 1, none⟩ (.int .i64 37))) (fun q hq => hk q (fun e => by have := vfar q hq; have := X.out.lt; omega))
      refine ⟨h.1, ?_⟩
      rcases h.2 with hn | ⟨q, c, cur, e, hl, r⟩
      · exact .inl hn
      · exact .inr ⟨q, c, cur, e, by omega, r⟩
    · have h := (R3.out.keep (HB.out.block g R3.out.lt)).keep (hk g hne)
      have h2 := h.row (M := w.heap.size) (by omega) (by rw [doL_length]; exact hl)
      exact (fun (n : Nat) (e : n = (doL k m s l).length) => by subst e; exact h2 : ∀ n : Nat, n = (doL k m s l).length → M2.BR w.heap.size _ (.slice (some ⟨g, 0, none⟩) n n) (doL k m s l)) l.length (doL_length k m s l).symm
    · have := vfar q hq
      have := o2.foot q hf
      omega
    · simp only [Value.ownBlock, Option.some.injEq] at hq
      subst hq
      exact nf hf
    · refine ⟨?_, ?_, ?_, ?_, fun q hq hF' => ?_⟩
      · exact wl.os.trans (HB.out.os.trans (w23.os.trans wr2.os))
      · exact wl.tape.trans (HB.out.tape.trans (w23.tape.trans wr2.tape))
      · exact wl.output.trans (HB.out.output.trans (w23.output.trans wr2.output))
      · rw [hsz]; have := HB.out.size; omega
      · have q2 : q < w2.heap.size := by omega
        have q3 : q < w3.heap.size := by omega
        have hF1 : ¬ F q := fun h => hF' (.inl h)
        have hF2 : q ≠ N := fun h => hF' (.inr h)
        exact (hk q hF2).trans ((HB.out.block q q3).trans ((w23.block q q2 hF2).trans (wr2.block q hq hF1)))
    · intro q hf
      exact (lt2 q hf).imp id (fun h => h)

end Go.Proofs.YtikaoikladbdpaaGreat
namespace Go.Proofs.YtikaoikladbdpaaGreat.M2
open Go.RowKit Go.Shelf

def Still (s : Nat) (A A' : World) : Prop := A.heap.size ≤ A'.heap.size ∧ ∀ b, s ≤ b → b < A.heap.size → A'.heap[b]? = A.heap[b]?

def LoopAt (D : Nat) (o : Obj) (W : World) : Prop := W.heap[D + 1]? = some o ∧ W.heap[D]? = some (.deferred (some []))

def roundPost (B id : Nat) (I Ix : Nat → World → Prop) (Ir : Nat → World → Prop) (k s : Nat) (W : World) : Exit → Act → World → Prop
  | .normal, _, W' => KeepsFrom B W W' ∧ Still s W W' ∧ I (k + 1) W'
  | .exit i, _, W' => i = id ∧ KeepsFrom B W W' ∧ Ix k W'
  | .ret, _, W' => KeepsFrom B W W' ∧ Ir k W'
  | _, _, _ => False

end Go.Proofs.YtikaoikladbdpaaGreat.M2
namespace Go.Proofs.YtikaoikladbdpaaGreat.M2
open Go.RowKit

theorem getD_left {α : Type} {xs ys : List α} {k : Nat} {d : α} (h : k < xs.length) : (xs ++ ys).getD k d = xs.getD k d := by
  simp only [List.getD_eq_getElem?_getD, List.getElem?_append_left h]
def vAt (zs : List Int) (ps : List Nat) (k : Nat) : Int := if k = 0 then zs.getD 1 0 else zs.getD (ps.getD (k - 1) 0 + 3) 0

def MapIs (w : World) (r : Nat) (es : Array MapEntry) : Prop := w.heap[r]? = some (.map es es.size)

theorem MapIs.lt {w : World} {r : Nat} {es : Array MapEntry} (h : MapIs w r es) : r < w.heap.size := lt_of_block h
theorem MapIs.new (w : World) : MapIs (w.alloc (.map #[] 0)) w.heap.size #[] := heap_alloc_new w _

theorem run_put {P : Program} (w : World) (t kt et : TypeId) (r : Nat) (es : Array MapEntry) (k : Int) (v : Value) (hm : P.underlying t = some (.map kt et)) (hk : P.underlying kt = some (.int .i64)) (hb : MapIs w r es) (hf : Instr.findNow (.int .i64) (.int .i64 k) es.toList 0 = some none) :
    (Instr.mapUpdate t (.map (some r)) (.int .i64 k) v).run P w = .ok () { w with heap := w.heap.setIfInBounds r (.map (es.push { key := .int .i64 k, val := v, born := es.size }) (es.size + 1)) } := by
  have hc : (Instr.checkKey false 10000 kt (.int .i64 k)).run P w = .ok () w := MapKept.run_checkKey (k := .int .i64 k) hk (by simp [MapKept.IsKey]) false 9999
  simp [Instr.mapUpdate, run_underlying hm, MapKept.run_getObj_map hb, hc, MapKept.run_findKey hk hf, MapKept.run_setObj_map _ hb, Result.andThen]

theorem run_lookIn {P : Program} (w : World) (t kt et : TypeId) (r : Nat) (es : Array MapEntry) (k : Int) (ok : Bool) (i : Nat) (v : Value) (hm : P.underlying t = some (.map kt et)) (hk : P.underlying kt = some (.int .i64)) (hb : MapIs w r es) (hf : Instr.findNow (.int .i64) (.int .i64 k) es.toList 0 = some (some (i, v))) :
    (Instr.lookup t (.map (some r)) (.int .i64 k) ok).run P w = .ok (if ok then .tuple #[v, .bool true] else v) w := by
  have hc : ∀ e, (Instr.checkKey e 10000 kt (.int .i64 k)).run P w = .ok () w := fun e => MapKept.run_checkKey (k := .int .i64 k) hk (by simp [MapKept.IsKey]) e 9999
  simp [Instr.lookup, run_underlying hm, MapKept.run_getObj_map hb, hc, MapKept.run_findKey hk hf, Result.andThen]
theorem MapIs.wrote {w : World} {r : Nat} {es es' : Array MapEntry} {c : Nat} (h : MapIs w r es) (hc : c = es'.size) : ∃ w' : World, w' = { w with heap := w.heap.setIfInBounds r (.map es' c) } ∧ MapIs w' r es' ∧ _root_.Go.Proofs.YtikaoikladbdpaaGreat.Wrote (fun q => q = r) w w' := by
  refine ⟨_, rfl, ?_, ⟨rfl, rfl, rfl, by simp, ?_⟩⟩
  · have hl := h.lt
    unfold MapIs
    subst hc
    simp [hl]
  · intro q hq hne
    simp [Array.getElem?_setIfInBounds_ne (Ne.symm hne)]

theorem put_run {P : Program} (w : World) (t kt et : TypeId) (r : Nat) (es : Array MapEntry) (k : Int) (v : Value) (hm : P.underlying t = some (.map kt et)) (hk : P.underlying kt = some (.int .i64)) (hb : MapIs w r es) (hf : Instr.findNow (.int .i64) (.int .i64 k) es.toList 0 = some none) :
    ∃ w', (Instr.mapUpdate t (.map (some r)) (.int .i64 k) v).run P w = .ok () w' ∧ MapIs w' r (es.push { key := .int .i64 k, val := v, born := es.size }) ∧ _root_.Go.Proofs.YtikaoikladbdpaaGreat.Wrote (fun q => q = r) w w' := by
  obtain ⟨w', e, h1, h2⟩ := hb.wrote (es' := es.push { key := .int .i64 k, val := v, born := es.size }) (c := es.size + 1) (by simp)
  exact ⟨w', by rw [e]; exact run_put w t kt et r es k v hm hk hb hf, h1, h2⟩

end Go.Proofs.YtikaoikladbdpaaGreat.M2
