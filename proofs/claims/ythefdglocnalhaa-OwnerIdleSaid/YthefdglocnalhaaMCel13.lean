/-
  What 'append(s, make([]T, m)...)' does where s is a row of the call's own: as many noughts more, in the row or in a new one. Conditions: elements of one cell and eight bytes; at most a million elements of either. No Go function is looked at here. What a memory of package cells is in the model's world, what its calls may touch, and the plain functions that say what they answer. Conditions: none; no Go function is looked at here. What New, Top, Steps, room, cell and count of package cells do, and the deferred functions that count: each for every memory, and for nil. Conditions: a memory as Mem says; steps below a million. What Load, Store and Swap of package cells do: where the cell is there, where it is not, and at nil. Conditions: a memory as Mem says; steps below a million. What New, Alloc, Cells and Copy of package cells do, at every memory and at nil. Conditions: a memory as Mem says; steps below a million. What Alloc of package cells does, at every memory and at nil. Conditions: a memory as Mem says; steps below a million. What Cells and Copy of package cells do, at every memory and at nil: numbers in new memory, a memory in new memory; all old memory is as it was. Conditions: a memory as Mem says. The calls of package cells where one memory is looked at: what it is behind each call, and that nothing below the block B is touched; and the example that every statement asks ('known'). Conditions: a memory as Mem1 says; steps below a million. Lists of numbers that came in, and what reaperref02.Same tells of two lists of the same numbers. Conditions: none. The calls of package cells where only the number of cells and the steps are looked at. Conditions: a memory as MemL says; steps below a million.
-/
import Derived.Test.YthefdglocnalhaaArg13m
import Derived.WalkKit
import Derived.ProofKit
import Derived.Below
import Derived.RowKit3
import Derived.WalkSmall
import Derived.OneCell
import Derived.OwnWalk
import Derived.Laws.CopyOwn
import Derived.Laws.AppendOwnNone
import Derived.Deep.RegionLaw
import Derived.Deep.QuietTactic
import Derived.BigQuiet
import Derived.Defers
import Derived.Lib.Hide
import Derived.ChangeSlices
import Derived.OpenShut
namespace Go.Proofs.Ythefdglocnalhaa.M2
open Go.RowKit

theorem toList_zeroCells_one (z : Value) (n : Nat) : (Builtin.zeroCells #[z] n).toList = List.replicate n z := by
  apply List.ext_getElem?
  intro j
  by_cases hj : j < n
  · simp [Builtin.zeroCells, hj, Nat.mod_one]
  · simp [Builtin.zeroCells, hj]

theorem zeroCells_one (z : Value) (n : Nat) : Builtin.zeroCells #[z] n = (List.replicate n z).toArray := by
  rw [← toList_zeroCells_one]

theorem run_append_zeros {P : Program} (w : World) (base : Nat) (t ti ty e : TypeId) (k : IntKind) (i : TypeInfo) (z : Value) (ht : P.underlying t = some (.slice e)) (hti : P.underlying ti = some (.int k)) (hi : P.info? e = some i) (hz : i.zero = some z)
    (hsize : i.size = 1) (hby : i.bytes = 8) (hzs : z.cells = #[z]) (hz1 : z.oneCell' = true)
    (v : Value) (n : Nat) (xs : List Value) (hown : w.ownsRow base e 1 v n xs) (m : Nat) (hm : m ≤ 1000000) (hn : n ≤ 1000000) (hbase : base ≤ w.heap.size) :
    ∃ v' w', (Builtin.append_ #[t, ti] ty #[v, .int .i64 (m : Int)]).run P w = .ok v' w' ∧ w'.ownsRow base e 1 v' (n + m) (xs ++ List.replicate m z) ∧ w.grownBy w' v.ownBlock ∧
      (∀ g, v'.ownBlock = some g → v.ownBlock = some g ∨ w.heap.size ≤ g) := by
  have hw : IntKind.i64.wrap (m : Int) = m := by rw [IntKind.wrap_i64]; omega
  have hw0 : IntKind.i64.wrap 0 = 0 := by rw [IntKind.wrap_i64]; omega
  have n1 : ¬ (m : Int) < 0 := by omega
  have n2 : ¬ (281474976710656 < (m : Int) * 8) := by omega
  have h63 : n + m ≤ maxLen := by simp only [maxLen]; omega
  have hlen : (xs ++ List.replicate m z).length = (n + m) * 1 := by rw [List.length_append, hown.1, List.length_replicate]; omega
  have grown : ∀ (old : Nat), old < n + m → ∀ (row : Option Nat),
      (w.drew.alloc (.cells (xs.toArray ++ (List.replicate m z).toArray ++ (List.replicate (grownCap w (n + m) old e - (n + m)) z).toArray) e)).ownsRow base e 1
        (.slice (some ⟨w.heap.size, 0, none⟩) (n + m) (grownCap w (n + m) old e)) (n + m) (xs ++ List.replicate m z) ∧
      w.grownBy (w.drew.alloc (.cells (xs.toArray ++ (List.replicate m z).toArray ++ (List.replicate (grownCap w (n + m) old e - (n + m)) z).toArray) e)) row := by
    intro old ho row
    have hge := grownCap_ge w (n + m) old e
    have hcm : grownCap w (n + m) old e ≤ maxLen := grownCap_le_maxLen w (n + m) old e h63
    refine ⟨⟨hlen, .inr ⟨w.heap.size, _, _, rfl, hbase, heap_alloc_new w.drew _, hge, hcm, ?_, ?_⟩⟩, ⟨rfl, rfl, rfl, by simp, fun k hk _ => Below.heap_alloc w.drew _ k hk⟩⟩
    · have := hown.1
      simp only [Array.size_append, List.size_toArray, List.length_replicate]
      omega
    · simp only [Array.toList_append, List.append_assoc]
      rw [← List.append_assoc, ← hlen]
      exact List.take_left
  rcases hown.2 with ⟨rfl, rfl⟩ | ⟨g, cap, cur, rfl, hbg, hg, hnc, hcm, hcs, htake⟩
  · have hx : xs = [] := List.eq_nil_of_length_eq_zero (by simpa using hown.1)
    subst hx
    by_cases hm0 : m = 0
    · subst hm0
      refine ⟨.slice none 0 0, w, ?_, World.ownsRow_nil w base e 1, ⟨rfl, rfl, rfl, Nat.le_refl _, fun _ _ _ => rfl⟩, by simp [Value.ownBlock]⟩
      simp [Builtin.append_, run_underlying ht, run_underlying hti, sizeOf, typeInfo, hi, asInt, asIntOf, hw0, hby]
    · have h48' : ¬ (281474976710656 < Builtin.nextslicecap m 0 * 8) := by rw [nextslicecap_zero (by omega)]; omega
      have h63' : ¬ (9223372036854775807 < (m : Int)) := by omega
      have hgr := grown 0 (by omega) (Value.ownBlock (.slice none 0 0))
      refine ⟨_, _, ?_, hgr.1, hgr.2, by simp [Value.ownBlock]⟩
      simp [Builtin.append_, run_underlying ht, run_underlying hti, sizeOf, typeInfo, zeroValue, hi, hz, asInt, asIntOf, hw, hsize, hby, hm0, n1, n2, h48', h63', Question.forced, run_firstCells_none, newRow, grownCap, hzs, zeroCells_one]
  · by_cases hroom : n + m ≤ cap
    · have hfit : n + (List.replicate m z).length ≤ cur.size := by rw [List.length_replicate, hcs]; omega
      have hst := run_storeCells_at P g n e (List.replicate m z) 0 cur w hg (by simpa using hfit) (by intro u hu; rw [List.eq_of_mem_replicate hu]; exact hz1)
      simp only [Nat.add_zero] at hst
      refine ⟨.slice (some ⟨g, 0, none⟩) (n + m) cap, w.setRow g (cur.toList.take n ++ List.replicate m z ++ cur.toList.drop (n + m)).toArray, ?_, ⟨hlen, .inr ⟨g, cap, _, rfl, hbg, setRow_heap w g cur _ e _ hg, hroom, hcm, ?_, ?_⟩⟩,
        ⟨rfl, rfl, rfl, by simp, fun k _ hk => setRow_other w g k _ (fun e => hk (by simp [Value.ownBlock, e]))⟩, by simp [Value.ownBlock]⟩
      · by_cases hm0 : m = 0
        · subst hm0
          simp at hst
          simp [Builtin.append_, run_underlying ht, run_underlying hti, sizeOf, typeInfo, hi, asInt, asIntOf, hw0, hsize, hby, hnc, Addr.add_lit, hst]
        · simp at hst
          simp [Builtin.append_, run_underlying ht, run_underlying hti, sizeOf, typeInfo, zeroValue, hi, hz, asInt, asIntOf, hw, hsize, hby, hm0, n1, n2, hroom, hzs, zeroCells_one, Addr.add_lit, hst]
      · simp only [List.size_toArray, List.length_append, List.length_take, List.length_drop, Array.length_toList, List.length_replicate]
        omega
      · have e1 : cur.toList.take n = xs := by simpa using htake
        rw [e1, ← hlen]
        exact List.take_left
    · have h48' : ¬ (281474976710656 < Builtin.nextslicecap (n + m) cap * 8) := by have := growslice_fits (old := cap) (need := n + m) (bytes := 8) (by omega) (by omega); omega
      have h63' : ¬ (9223372036854775807 < ((n : Int) + (m : Int))) := by omega
      have holds : ∀ j u, xs[j]? = some u → w.cell? ((⟨g, 0, none⟩ : Addr).add j) = some u := hown.cells (g := g) rfl
      have hfo := run_firstCells_some (P := P) w.drew 1 n ⟨g, 0, none⟩ n cap xs hown.1 (by simpa using holds)
      have hm0 : m ≠ 0 := by omega
      have hgr := grown cap (by omega) (Value.ownBlock (.slice (some ⟨g, 0, none⟩) n cap))
      refine ⟨_, _, ?_, hgr.1, hgr.2, by simp [Value.ownBlock]⟩
      simp [Builtin.append_, run_underlying ht, run_underlying hti, sizeOf, typeInfo, zeroValue, hi, hz, asInt, asIntOf, hw, hsize, hby, hm0, n1, n2, h48', h63', hroom, Question.forced, hfo, newRow, grownCap, hzs, zeroCells_one]

/-- The same as one step of a region that draws its order. -/
theorem step_append_zeros {P : Program} {ops : Array Oper} {o : Oper} {a : Act} {w : World} {K : Act → World → Prop} {Q : Exit → Act → World → Prop} {E : Prop}
    (hg : o.guard = none) (s x : Operand) (t ti : TypeId) (hop : o.op = Op.call { callee := Callee.builtin Builtin.append, args := #[s, x], argTypes := #[t, ti] })
    (base : Nat) (e : TypeId) (k : IntKind) (i : TypeInfo) (z : Value) (ht : P.underlying t = some (.slice e)) (hti : P.underlying ti = some (.int k)) (hi : P.info? e = some i) (hz : i.zero = some z)
    (hsize : i.size = 1) (hby : i.bytes = 8) (hzs : z.cells = #[z]) (hz1 : z.oneCell' = true)
    (v : Value) (n : Nat) (xs : List Value) (hs : a.eval s = v) (hown : w.ownsRow base e 1 v n xs) (m : Nat) (hx : a.eval x = .int .i64 (m : Int)) (hm : m ≤ 1000000) (hn : n ≤ 1000000) (hbase : base ≤ w.heap.size)
    (hK : ∀ v' w', w'.ownsRow base e 1 v' (n + m) (xs ++ List.replicate m z) → w.grownBy w' v.ownBlock → (∀ g, v'.ownBlock = some g → v.ownBlock = some g ∨ w.heap.size ≤ g) → K (a.put o.dst v') w') :
    if Region.wanted o (yielded ops a.tmps) = true then Oper.wp P o a w K Q else E := by
  have hw : Region.wanted o (yielded ops a.tmps) = true := by simp [Region.wanted, hg]
  rw [if_pos hw]
  obtain ⟨v', w', hrun, h2, h3, h4⟩ := run_append_zeros (P := P) w base t ti o.type e k i z ht hti hi hz hsize hby hzs hz1 v n xs hown m hm hn hbase
  unfold Oper.wp
  simp [execOp, hop, resolve, invoke, builtin, hs, hx, hrun, Result.andThen]
  exact hK v' w' h2 h3 h4

theorem wpList_append_zeros {P : Program} {w : World} {ops : Array Oper} {rest : List Oper} {o : Oper} {a : Act} {Q : Exit → Act → World → Prop}
    (hg : o.guard = none) (s x : Operand) (t ti : TypeId) (hop : o.op = Op.call { callee := Callee.builtin Builtin.append, args := #[s, x], argTypes := #[t, ti] })
    (base : Nat) (e : TypeId) (k : IntKind) (i : TypeInfo) (z : Value) (ht : P.underlying t = some (.slice e)) (hti : P.underlying ti = some (.int k)) (hi : P.info? e = some i) (hz : i.zero = some z)
    (hsize : i.size = 1) (hby : i.bytes = 8) (hzs : z.cells = #[z]) (hz1 : z.oneCell' = true)
    (v : Value) (n : Nat) (xs : List Value) (hs : a.eval s = v) (hown : w.ownsRow base e 1 v n xs) (m : Nat) (hx : a.eval x = .int .i64 (m : Int)) (hm : m ≤ 1000000) (hn : n ≤ 1000000) (hbase : base ≤ w.heap.size)
    (hK : ∀ v' w', w'.ownsRow base e 1 v' (n + m) (xs ++ List.replicate m z) → w.grownBy w' v.ownBlock → (∀ g, v'.ownBlock = some g → v.ownBlock = some g ∨ w.heap.size ≤ g) → wpList P ops Q rest (a.put o.dst v') w') :
    wpList P ops Q (o :: rest) a w := by
  refine wpList_plain hg fun K hK' => ?_
  obtain ⟨v', w', hrun, h2, h3, h4⟩ := run_append_zeros (P := P) w base t ti o.type e k i z ht hti hi hz hsize hby hzs hz1 v n xs hown m hm hn hbase
  unfold Oper.wp
  simp [execOp, hop, resolve, invoke, builtin, hs, hx, hrun, Result.andThen]
  exact hK' _ _ (hK v' w' h2 h3 h4)

end Go.Proofs.Ythefdglocnalhaa.M2
namespace Go.Proofs.Ythefdglocnalhaa.M2
open Go.RowKit

/-- A memory at block p whose list is the value v: SIZE, the cells' numbers, the steps. -/
structure Mem (w : World) (B p : Nat) (v : Value) (size : Int) (zs : List Int) (st : Int) : Prop where
  block : w.heap[p]? = some (.cells #[.int .i64 size, v, .int .i64 st] 102 (0, 0))
  low : B ≤ p
  own : w.ownsRow B 2 1 v zs.length (zs.map (Value.int .i64))
  s0 : 0 ≤ size
  s1 : size ≤ 1000
  room : (zs.length : Int) ≤ size

/-- All blocks but p and the row of v are as they were. -/
structure Wrote (p : Nat) (v : Value) (w w' : World) : Prop where
  os : w'.os = w.os
  tape : w'.tape = w.tape
  output : w'.output = w.output
  size : w.heap.size ≤ w'.heap.size
  block : ∀ k, k < w.heap.size → k ≠ p → v.ownBlock ≠ some k → w'.heap[k]? = w.heap[k]?

/-- A row is the one that was, or a new one. -/
def Later (v v' : Value) (w : World) : Prop := ∀ g, v'.ownBlock = some g → v.ownBlock = some g ∨ w.heap.size ≤ g

theorem Later.refl (v : Value) (w : World) : Later v v w := fun _ h => .inl h

/-- What a call on a memory leaves. -/
def Did (B p : Nat) (v : Value) (size : Int) (zs : List Int) (st : Int) (w w' : World) : Prop := ∃ v', Mem w' B p v' size zs st ∧ Wrote p v w w' ∧ Later v v' w

theorem Wrote.refl (p : Nat) (v : Value) (w : World) : Wrote p v w w := ⟨rfl, rfl, rfl, Nat.le_refl _, fun _ _ _ _ => rfl⟩
theorem Wrote.trans {p : Nat} {v : Value} {a b c : World} (h : Wrote p v a b) (k : Wrote p v b c) : Wrote p v a c :=
  ⟨k.os.trans h.os, k.tape.trans h.tape, k.output.trans h.output, Nat.le_trans h.size k.size, fun i hi h1 h2 => (k.block i (Nat.lt_of_lt_of_le hi h.size) h1 h2).trans (h.block i hi h1 h2)⟩
theorem Wrote.alloc {p : Nat} {v : Value} {a w : World} (h : Wrote p v a w) (o : Obj) : Wrote p v a (w.alloc o) :=
  h.trans ⟨rfl, rfl, rfl, by simp, fun k hk _ _ => Below.heap_alloc _ _ _ hk⟩
theorem Wrote.drewN {p : Nat} {v : Value} {a w : World} (h : Wrote p v a w) (n : Nat) : Wrote p v a (w.drewN n) := ⟨h.os, h.tape, h.output, h.size, h.block⟩
theorem Wrote.drew {p : Nat} {v : Value} {a w : World} (h : Wrote p v a w) : Wrote p v a w.drew := ⟨h.os, h.tape, h.output, h.size, h.block⟩
theorem Wrote.setCell {p : Nat} {v : Value} {a w : World} (h : Wrote p v a w) {q : Addr} (hq : a.heap.size ≤ q.block ∨ q.block = p ∨ v.ownBlock = some q.block) (u : Value) : Wrote p v a (w.setCell q u) :=
  ⟨h.os, h.tape, h.output, by simpa [World.setCell] using h.size, fun k hk h1 h2 => by
    rw [Below.heap_setCell _ _ _ _ (by rintro rfl; rcases hq with h' | h' | h'; · omega
                                       · exact h1 h'
                                       · exact h2 h')]
    exact h.block k hk h1 h2⟩
theorem Wrote.grown {p : Nat} {v : Value} {a w w' : World} (h : Wrote p v a w) (hg : w.grownBy w' v.ownBlock) : Wrote p v a w' :=
  h.trans ⟨hg.os, hg.tape, hg.output, hg.size, fun k hk _ h2 => hg.block k hk (fun e => h2 e.symm)⟩

section
variable {w : World} {B p : Nat} {v : Value} {size : Int} {zs : List Int} {st : Int}

theorem Mem.lt (h : Mem w B p v size zs st) : p < w.heap.size := lt_of_block h.block
theorem Mem.base (h : Mem w B p v size zs st) : B ≤ w.heap.size := Nat.le_of_lt (Nat.lt_of_le_of_lt h.low h.lt)
theorem Mem.c0 (h : Mem w B p v size zs st) : w.cell? ⟨p, 0, none⟩ = some (.int .i64 size) := by simp [World.cell?, h.block]
theorem Mem.c1 (h : Mem w B p v size zs st) : w.cell? ⟨p, 1, none⟩ = some v := by simp [World.cell?, h.block]
theorem Mem.c2 (h : Mem w B p v size zs st) : w.cell? ⟨p, 2, none⟩ = some (.int .i64 st) := by simp [World.cell?, h.block]
theorem Mem.f (h : Mem w B p v size zs st) (j : Nat) : w.frozen? ⟨p, j, none⟩ = false := by simp [World.frozen?, h.block]

theorem Mem.ne (h : Mem w B p v size zs st) : v.ownBlock ≠ some p := by
  intro e
  rcases h.own.2 with ⟨rfl, _⟩ | ⟨g, cap, cur, rfl, _, hg, _⟩
  · simp [Value.ownBlock] at e
  · simp only [Value.ownBlock, Option.some.injEq] at e
    subst e
    have hb := h.block
    rw [hg] at hb
    simp at hb

theorem Mem.shape (h : Mem w B p v size zs st) : ∃ ao cap, v = .slice ao zs.length cap := by
  rcases h.own.2 with ⟨rfl, e⟩ | ⟨g, cap, cur, rfl, _⟩
  · exact ⟨none, 0, by rw [e]⟩
  · exact ⟨_, cap, rfl⟩

theorem Mem.row (h : Mem w B p v size zs st) (hz : 0 < zs.length) : ∃ g cap, v = .slice (some ⟨g, 0, none⟩) zs.length cap ∧ g ≠ p ∧ B ≤ g ∧ g < w.heap.size := by
  have hn := h.ne
  rcases h.own.2 with ⟨rfl, e⟩ | ⟨g, cap, cur, rfl, hb, hg, _⟩
  · omega
  · exact ⟨g, cap, rfl, fun e => hn (by simp [Value.ownBlock, e]), hb, lt_of_block hg⟩

/-- A world in which p's block and the row's block are as they were. -/
theorem Mem.keep {w' : World} (h : Mem w B p v size zs st) (hp : w'.heap[p]? = w.heap[p]?) (hv : ∀ g, v.ownBlock = some g → w'.heap[g]? = w.heap[g]?) : Mem w' B p v size zs st := by
  refine ⟨hp.trans h.block, h.low, ⟨h.own.1, ?_⟩, h.s0, h.s1, h.room⟩
  rcases h.own.2 with hn | ⟨g, cap, cur, rfl, hb, hg, r⟩
  · exact .inl hn
  · exact .inr ⟨g, cap, cur, rfl, hb, (hv g rfl).trans hg, r⟩

theorem Mem.rowLt (h : Mem w B p v size zs st) {g : Nat} (hg : v.ownBlock = some g) : B ≤ g ∧ g < w.heap.size := h.own.lt g hg

theorem Mem.alloc (h : Mem w B p v size zs st) (o : Obj) : Mem (w.alloc o) B p v size zs st :=
  h.keep (Below.heap_alloc _ _ _ h.lt) (fun _ hg => Below.heap_alloc _ _ _ (h.rowLt hg).2)

theorem Mem.setOther (h : Mem w B p v size zs st) {q : Addr} (h1 : q.block ≠ p) (h2 : v.ownBlock ≠ some q.block) (u : Value) : Mem (w.setCell q u) B p v size zs st :=
  h.keep (Below.heap_setCell _ _ _ _ (fun e => h1 e.symm)) (fun _ hg => Below.heap_setCell _ _ _ _ (fun e => h2 (by rw [hg, e])))

theorem Mem.drewN (h : Mem w B p v size zs st) (n : Nat) : Mem (w.drewN n) B p v size zs st := ⟨h.block, h.low, h.own, h.s0, h.s1, h.room⟩
theorem Mem.drew (h : Mem w B p v size zs st) : Mem w.drew B p v size zs st := ⟨h.block, h.low, h.own, h.s0, h.s1, h.room⟩

theorem Mem.setSteps (h : Mem w B p v size zs st) (x : Int) : Mem (w.setCell ⟨p, 2, none⟩ (.int .i64 x)) B p v size zs x := by
  refine ⟨?_, h.low, ownsRow_setCell_other h.own h.ne _, h.s0, h.s1, h.room⟩
  rw [heap_setCell_same w p 2 _ _ _ h.block]
  rfl

/-- The list's value is another one, which owns more. -/
theorem Mem.setList (h : Mem w B p v size zs st) {v' : Value} {zs' : List Int} (ho : w.ownsRow B 2 1 v' zs'.length (zs'.map (Value.int .i64))) (hr : (zs'.length : Int) ≤ size)
    (hne : v'.ownBlock ≠ some p) : Mem (w.setCell ⟨p, 1, none⟩ v') B p v' size zs' st := by
  refine ⟨?_, h.low, ownsRow_setCell_other ho hne _, h.s0, h.s1, hr⟩
  rw [heap_setCell_same w p 1 _ _ _ h.block]
  rfl

theorem Mem.cell (h : Mem w B p v size zs st) {g cap : Nat} (hv : v = .slice (some ⟨g, 0, none⟩) zs.length cap) {a : Int} (h0 : 0 ≤ a) (h1 : a < zs.length) :
    w.cell? ⟨g, a.toNat, none⟩ = some (.int .i64 (zs.getD a.toNat 0)) ∧ w.frozen? ⟨g, a.toNat, none⟩ = false := by
  subst hv
  have hl : a.toNat < zs.length := by omega
  refine ⟨?_, h.own.frozenAt _⟩
  rw [h.own.cellAt a.toNat (by omega)]
  simp [List.getD, hl]

theorem Mem.setAt (h : Mem w B p v size zs st) {g cap : Nat} (hv : v = .slice (some ⟨g, 0, none⟩) zs.length cap) (j : Nat) (x : Int) :
    Mem (w.setCell ⟨g, j, none⟩ (.int .i64 x)) B p v size (zs.set j x) st := by
  have hne := h.ne
  subst hv
  have hs := (h.own.stored j (.int .i64 x)).1
  refine ⟨?_, h.low, ?_, h.s0, h.s1, by simpa using h.room⟩
  · rw [Below.heap_setCell _ _ _ _ (by simpa [Value.ownBlock, eq_comm] using hne)]; exact h.block
  · simpa [List.map_set] using hs

theorem Mem.did (h : Mem w B p v size zs st) : Did B p v size zs st w w := ⟨v, h, Wrote.refl _ _ _, Later.refl _ _⟩
end

theorem Wrote.below {p : Nat} {v : Value} {w w' : World} {B : Nat} (h : Wrote p v w w') (hB : B ≤ w.heap.size) (hp : B ≤ p) (hv : ∀ g, v.ownBlock = some g → B ≤ g) : Below B w w' :=
  ⟨h.os, h.tape, h.output, h.size, fun k hk => h.block k (by omega) (by omega) (fun e => by have := hv k e; omega)⟩

/-- A memory of which the list's place is not told. -/
def Mem1 (w : World) (B p : Nat) (size : Int) (zs : List Int) (st : Int) : Prop := ∃ v, Mem w B p v size zs st

theorem Did.one {w w' : World} {B p : Nat} {v : Value} {size size' : Int} {zs zs' : List Int} {st st' : Int} (h : Mem w B p v size zs st) (d : Did B p v size' zs' st' w w') : Mem1 w' B p size' zs' st' ∧ Below B w w' := by
  obtain ⟨v', m, wr, _⟩ := d
  exact ⟨⟨v', m⟩, wr.below h.base h.low (fun g hg => (h.rowLt hg).1)⟩

theorem Mem1.keep {w w' : World} {B p : Nat} {size : Int} {zs : List Int} {st : Int} (h : Mem1 w B p size zs st) (b : Below w.heap.size w w') : Mem1 w' B p size zs st := by
  obtain ⟨v, m⟩ := h
  exact ⟨v, m.keep (b.block _ m.lt) (fun g hg => b.block _ (m.rowLt hg).2)⟩

theorem Mem.fresh {w w' : World} {B p : Nat} {v : Value} {size : Int} {zs : List Int} {st : Int} (m : Mem w B p v size zs st) (b : Below w.heap.size w w') : Mem w' B p v size zs st :=
  m.keep (b.block _ m.lt) (fun _ hg => b.block _ (m.rowLt hg).2)

end Go.Proofs.Ythefdglocnalhaa.M2
namespace Go.Proofs.Ythefdglocnalhaa.M2
open Go.RowKit

section
variable {w : World} {B p : Nat} {v : Value} {size : Int} {zs : List Int} {st : Int}

theorem topAny (h : Mem w B p v size zs st) :
    Calls Try.prog 60 #[.pointer (some ⟨p, 0, none⟩)] w fun e w' => e = .returned (.int .i64 zs.length) ∧ w = w' := by
  have c1 := h.c1
  obtain ⟨ao, cap, rfl⟩ := h.shape
  have H := Lib.hid h
  clear h
  go_enter Try.func60, Try.ntmps60
  go_wp2
  go_ret
  exact ⟨rfl, rfl⟩

theorem topNil (w : World) :
    Calls Try.prog 60 #[.pointer none] w fun e w' => e = .returned (.int .i64 0) ∧ w = w' := by
  go_enter Try.func60, Try.ntmps60
  go_wp2
  go_ret
  exact ⟨rfl, rfl⟩

theorem stepsAny (h : Mem w B p v size zs st) :
    Calls Try.prog 30 #[.pointer (some ⟨p, 0, none⟩)] w fun e w' => e = .returned (.int .i64 st) ∧ w = w' := by
  have c2 := h.c2
  have H := Lib.hid h
  clear h
  go_enter Try.func30, Try.ntmps30
  go_wp2
  go_ret
  exact ⟨rfl, rfl⟩

theorem stepsNil (w : World) :
    Calls Try.prog 30 #[.pointer none] w fun e w' => e = .returned (.int .i64 0) ∧ w = w' := by
  go_enter Try.func30, Try.ntmps30
  go_wp2
  go_ret
  exact ⟨rfl, rfl⟩

theorem roomAny (h : Mem w B p v size zs st) :
    Calls Try.prog 56 #[.pointer (some ⟨p, 0, none⟩)] w fun e w' => e = .returned (.int .i64 (size - zs.length)) ∧ ∃ n, w' = w.drewN n := by
  have c0 := h.c0
  have c1 := h.c1
  obtain ⟨ao, cap, rfl⟩ := h.shape
  have s0 := h.s0
  have s1 := h.s1
  have r := h.room
  have t : IntKind.i64.wrap (size - zs.length) = size - zs.length := IntWalk.i64_in _ (by omega)
  have H := Lib.hid h
  clear h
  go_enter Try.func56, Try.ntmps56
  go_wp2
  go_quiet (fail)
  go_wp2
  go_ret
  exact ⟨rfl, _, rfl⟩

theorem roomNil (w : World) :
    Calls Try.prog 56 #[.pointer none] w fun e w' => e = .returned (.int .i64 0) ∧ ∃ n, w' = w.drewN n := by
  go_enter Try.func56, Try.ntmps56
  go_wp2
  go_ret
  exact ⟨rfl, 0, rfl⟩

theorem cellIn (h : Mem w B p v size zs st) {g cap : Nat} (hv : v = .slice (some ⟨g, 0, none⟩) zs.length cap) (a : Int) (h0 : 0 ≤ a) (h1 : a < zs.length) :
    Calls Try.prog 42 #[.pointer (some ⟨p, 0, none⟩), .int .i64 a] w fun e w' => e = .returned (.pointer (some ⟨g, a.toNat, none⟩)) ∧ w = w' := by
  have T := topAny h
  have c1 := h.c1
  subst hv
  have H := Lib.hid h
  clear h
  have h2 : ¬ a < 0 := by omega
  go_enter Try.func42, Try.ntmps42
  go_wp2_with (go_at_call 60; refine T.mono ?_; rintro e w' ⟨rfl, rfl⟩)
  go_ret
  exact ⟨by simp, rfl⟩

theorem cellOut (h : Mem w B p v size zs st) (a : Int) (h0 : a < 0 ∨ zs.length ≤ a) :
    Calls Try.prog 42 #[.pointer (some ⟨p, 0, none⟩), .int .i64 a] w fun e w' => e = .returned (.pointer none) ∧ w = w' := by
  have T := topAny h
  clear h
  by_cases h1 : a < 0
  · clear h0
    go_enter Try.func42, Try.ntmps42
    go_wp2_with (go_at_call 60; refine T.mono ?_; rintro e w' ⟨rfl, rfl⟩)
    go_ret
    exact ⟨rfl, rfl⟩
  · have h2 : (zs.length : Int) ≤ a := by omega
    clear h0
    go_enter Try.func42, Try.ntmps42
    go_wp2_with (go_at_call 60; refine T.mono ?_; rintro e w' ⟨rfl, rfl⟩)
    go_ret
    exact ⟨rfl, rfl⟩

theorem cellNil (w : World) (a : Int) :
    Calls Try.prog 42 #[.pointer none, .int .i64 a] w fun e w' => e = .returned (.pointer none) ∧ w = w' := by
  have T := topNil w
  by_cases h1 : a < 0
  · go_enter Try.func42, Try.ntmps42
    go_wp2_with (go_at_call 60; refine T.mono ?_; rintro e w' ⟨rfl, rfl⟩)
    go_ret
    exact ⟨rfl, rfl⟩
  · have h2 : 0 ≤ a := by omega
    go_enter Try.func42, Try.ntmps42
    go_wp2_with (go_at_call 60; refine T.mono ?_; rintro e w' ⟨rfl, rfl⟩)
    go_ret
    exact ⟨rfl, rfl⟩

theorem countOk (hc : w.cell? ⟨p, 2, none⟩ = some (.int .i64 st)) (hf : w.frozen? ⟨p, 2, none⟩ = false) (h0 : 0 ≤ st) (h1 : st < 1000000) :
    Calls Try.prog 41 #[.pointer (some ⟨p, 0, none⟩), .int .u16 0] w fun e w' => e = .returned (.tuple #[]) ∧ w' = w.setCell ⟨p, 2, none⟩ (.int .i64 (st + 1)) := by
  go_enter Try.func41, Try.ntmps41
  go_wp2
  go_end0
  exact ⟨rfl, rfl⟩

theorem countErr (p : Nat) (w : World) (x : Int) (h0 : 0 < x) :
    Calls Try.prog 41 #[.pointer (some ⟨p, 0, none⟩), .int .u16 x] w fun e w' => e = .returned (.tuple #[]) ∧ w' = w := by
  have h1 : ¬ x = 0 := by omega
  go_enter Try.func41, Try.ntmps41
  go_wp2
  go_end0
  exact ⟨rfl, rfl⟩

theorem countNil (w : World) (x : Int) :
    Calls Try.prog 41 #[.pointer none, .int .u16 x] w fun e w' => e = .returned (.tuple #[]) ∧ w' = w := by
  go_enter Try.func41, Try.ntmps41
  go_wp2
  go_end0
  exact ⟨rfl, rfl⟩

theorem okAlloc {x y : Addr} (u : FrameMode) (hx : w.cell? x = some (.pointer (some ⟨p, 0, none⟩))) (hy : w.cell? y = some (.int .u16 0)) (hc : w.cell? ⟨p, 2, none⟩ = some (.int .i64 st)) (hf : w.frozen? ⟨p, 2, none⟩ = false) (h0 : 0 ≤ st) (h1 : st < 1000000) :
    CallsD Try.prog 55 #[.pointer (some x), .pointer (some y)] u w fun e u' w' => u' = u ∧ (e = .returned (.tuple #[]) ∧ w' = w.setCell ⟨p, 2, none⟩ (.int .i64 (st + 1))) := by
  have T := countOk (w := w) hc hf h0 h1
  go_enter_d Try.func55, Try.ntmps55
  go_wp2_with (go_at_call 41; refine T.mono ?_; rintro e w' ⟨rfl, rfl⟩)
  go_end0
  exact ⟨rfl, rfl⟩

theorem errAlloc {x y : Addr} (u : FrameMode) (z : Int) (h0 : 0 < z) (hx : w.cell? x = some (.pointer (some ⟨p, 0, none⟩))) (hy : w.cell? y = some (.int .u16 z)) :
    CallsD Try.prog 55 #[.pointer (some x), .pointer (some y)] u w fun e u' w' => u' = u ∧ (e = .returned (.tuple #[]) ∧ w' = w) := by
  have T := countErr p w z h0
  go_enter_d Try.func55, Try.ntmps55
  go_wp2_with (go_at_call 41; refine T.mono ?_; rintro e w' ⟨rfl, rfl⟩)
  go_end0
  exact ⟨rfl, rfl⟩

theorem nilAlloc {x y : Addr} (u : FrameMode) (z : Int) (hx : w.cell? x = some (.pointer none)) (hy : w.cell? y = some (.int .u16 z)) :
    CallsD Try.prog 55 #[.pointer (some x), .pointer (some y)] u w fun e u' w' => u' = u ∧ (e = .returned (.tuple #[]) ∧ w' = w) := by
  have T := countNil w z
  go_enter_d Try.func55, Try.ntmps55
  go_wp2_with (go_at_call 41; refine T.mono ?_; rintro e w' ⟨rfl, rfl⟩)
  go_end0
  exact ⟨rfl, rfl⟩

theorem okLoad {x y : Addr} (u : FrameMode) (hx : w.cell? x = some (.pointer (some ⟨p, 0, none⟩))) (hy : w.cell? y = some (.int .u16 0)) (hc : w.cell? ⟨p, 2, none⟩ = some (.int .i64 st)) (hf : w.frozen? ⟨p, 2, none⟩ = false) (h0 : 0 ≤ st) (h1 : st < 1000000) :
    CallsD Try.prog 52 #[.pointer (some x), .pointer (some y)] u w fun e u' w' => u' = u ∧ (e = .returned (.tuple #[]) ∧ w' = w.setCell ⟨p, 2, none⟩ (.int .i64 (st + 1))) := by
  have T := countOk (w := w) hc hf h0 h1
  go_enter_d Try.func52, Try.ntmps52
  go_wp2_with (go_at_call 41; refine T.mono ?_; rintro e w' ⟨rfl, rfl⟩)
  go_end0
  exact ⟨rfl, rfl⟩

theorem errLoad {x y : Addr} (u : FrameMode) (z : Int) (h0 : 0 < z) (hx : w.cell? x = some (.pointer (some ⟨p, 0, none⟩))) (hy : w.cell? y = some (.int .u16 z)) :
    CallsD Try.prog 52 #[.pointer (some x), .pointer (some y)] u w fun e u' w' => u' = u ∧ (e = .returned (.tuple #[]) ∧ w' = w) := by
  have T := countErr p w z h0
  go_enter_d Try.func52, Try.ntmps52
  go_wp2_with (go_at_call 41; refine T.mono ?_; rintro e w' ⟨rfl, rfl⟩)
  go_end0
  exact ⟨rfl, rfl⟩

theorem nilLoad {x y : Addr} (u : FrameMode) (z : Int) (hx : w.cell? x = some (.pointer none)) (hy : w.cell? y = some (.int .u16 z)) :
    CallsD Try.prog 52 #[.pointer (some x), .pointer (some y)] u w fun e u' w' => u' = u ∧ (e = .returned (.tuple #[]) ∧ w' = w) := by
  have T := countNil w z
  go_enter_d Try.func52, Try.ntmps52
  go_wp2_with (go_at_call 41; refine T.mono ?_; rintro e w' ⟨rfl, rfl⟩)
  go_end0
  exact ⟨rfl, rfl⟩

theorem okStore {x y : Addr} (u : FrameMode) (hx : w.cell? x = some (.pointer (some ⟨p, 0, none⟩))) (hy : w.cell? y = some (.int .u16 0)) (hc : w.cell? ⟨p, 2, none⟩ = some (.int .i64 st)) (hf : w.frozen? ⟨p, 2, none⟩ = false) (h0 : 0 ≤ st) (h1 : st < 1000000) :
    CallsD Try.prog 40 #[.pointer (some x), .pointer (some y)] u w fun e u' w' => u' = u ∧ (e = .returned (.tuple #[]) ∧ w' = w.setCell ⟨p, 2, none⟩ (.int .i64 (st + 1))) := by
  have T := countOk (w := w) hc hf h0 h1
  go_enter_d Try.func40, Try.ntmps40
  go_wp2_with (go_at_call 41; refine T.mono ?_; rintro e w' ⟨rfl, rfl⟩)
  go_end0
  exact ⟨rfl, rfl⟩

theorem errStore {x y : Addr} (u : FrameMode) (z : Int) (h0 : 0 < z) (hx : w.cell? x = some (.pointer (some ⟨p, 0, none⟩))) (hy : w.cell? y = some (.int .u16 z)) :
    CallsD Try.prog 40 #[.pointer (some x), .pointer (some y)] u w fun e u' w' => u' = u ∧ (e = .returned (.tuple #[]) ∧ w' = w) := by
  have T := countErr p w z h0
  go_enter_d Try.func40, Try.ntmps40
  go_wp2_with (go_at_call 41; refine T.mono ?_; rintro e w' ⟨rfl, rfl⟩)
  go_end0
  exact ⟨rfl, rfl⟩

theorem nilStore {x y : Addr} (u : FrameMode) (z : Int) (hx : w.cell? x = some (.pointer none)) (hy : w.cell? y = some (.int .u16 z)) :
    CallsD Try.prog 40 #[.pointer (some x), .pointer (some y)] u w fun e u' w' => u' = u ∧ (e = .returned (.tuple #[]) ∧ w' = w) := by
  have T := countNil w z
  go_enter_d Try.func40, Try.ntmps40
  go_wp2_with (go_at_call 41; refine T.mono ?_; rintro e w' ⟨rfl, rfl⟩)
  go_end0
  exact ⟨rfl, rfl⟩

theorem okSwap {x y : Addr} (u : FrameMode) (hx : w.cell? x = some (.pointer (some ⟨p, 0, none⟩))) (hy : w.cell? y = some (.int .u16 0)) (hc : w.cell? ⟨p, 2, none⟩ = some (.int .i64 st)) (hf : w.frozen? ⟨p, 2, none⟩ = false) (h0 : 0 ≤ st) (h1 : st < 1000000) :
    CallsD Try.prog 90 #[.pointer (some x), .pointer (some y)] u w fun e u' w' => u' = u ∧ (e = .returned (.tuple #[]) ∧ w' = w.setCell ⟨p, 2, none⟩ (.int .i64 (st + 1))) := by
  have T := countOk (w := w) hc hf h0 h1
  go_enter_d Try.func90, Try.ntmps90
  go_wp2_with (go_at_call 41; refine T.mono ?_; rintro e w' ⟨rfl, rfl⟩)
  go_end0
  exact ⟨rfl, rfl⟩

theorem errSwap {x y : Addr} (u : FrameMode) (z : Int) (h0 : 0 < z) (hx : w.cell? x = some (.pointer (some ⟨p, 0, none⟩))) (hy : w.cell? y = some (.int .u16 z)) :
    CallsD Try.prog 90 #[.pointer (some x), .pointer (some y)] u w fun e u' w' => u' = u ∧ (e = .returned (.tuple #[]) ∧ w' = w) := by
  have T := countErr p w z h0
  go_enter_d Try.func90, Try.ntmps90
  go_wp2_with (go_at_call 41; refine T.mono ?_; rintro e w' ⟨rfl, rfl⟩)
  go_end0
  exact ⟨rfl, rfl⟩

theorem nilSwap {x y : Addr} (u : FrameMode) (z : Int) (hx : w.cell? x = some (.pointer none)) (hy : w.cell? y = some (.int .u16 z)) :
    CallsD Try.prog 90 #[.pointer (some x), .pointer (some y)] u w fun e u' w' => u' = u ∧ (e = .returned (.tuple #[]) ∧ w' = w) := by
  have T := countNil w z
  go_enter_d Try.func90, Try.ntmps90
  go_wp2_with (go_at_call 41; refine T.mono ?_; rintro e w' ⟨rfl, rfl⟩)
  go_end0
  exact ⟨rfl, rfl⟩

end

end Go.Proofs.Ythefdglocnalhaa.M2
namespace Go.Proofs.Ythefdglocnalhaa.M2
open Go.RowKit

theorem boxes (w : World) (m : Value) (t u : TypeId) : ∀ W, (w.alloc (.cells #[m] t)).alloc (.cells #[.int .u16 0] u) = W →
    W.cell? ⟨w.heap.size, 0, none⟩ = some m ∧ W.cell? ⟨w.heap.size + 1, 0, none⟩ = some (.int .u16 0) ∧ W.frozen? ⟨w.heap.size + 1, 0, none⟩ = false ∧ (∀ p v, Wrote p v w W) := by
  rintro W rfl
  refine ⟨?_, ?_, ?_, fun p v => ((Wrote.refl p v w).alloc _).alloc _⟩
  all_goals go_simp

section
variable {w : World} {B p : Nat} {v : Value} {size : Int} {zs : List Int} {st : Int}

set_option maxRecDepth 100000 in
set_option maxHeartbeats 1600000 in
theorem loadIn (h : Mem w B p v size zs st) (a : Int) (h0 : 0 ≤ a) (h1 : a < zs.length) (k0 : 0 ≤ st) (k1 : st < 1000000) :
    Calls Try.prog 26 #[.pointer (some ⟨p, 0, none⟩), .int .i64 a] w fun e w' => e = .returned (.tuple #[.int .i64 (zs.getD a.toNat 0), .int .u16 0]) ∧ Did B p v size zs (st + 1) w w' := by
  obtain ⟨g, cap, hv, hgp, hBg, hgl⟩ := h.row (by omega)
  have hpl := h.lt
  obtain ⟨y, hy⟩ : ∃ y, zs.getD a.toNat 0 = y := ⟨_, rfl⟩
  rw [hy]
  have hmf : ∀ (fn : Fn) (first cap : Array Value) (w : World), (Instr.makeFunc fn first cap).run Try.prog w = .ok (.func fn first cap) w := fun _ _ _ _ => rfl
  go_enter_defers Try.func26, Try.ntmps26
  go_wp2_with fail
  generalize hW : (w.alloc (.cells #[.pointer (some ⟨p, 0, none⟩)] 34)).alloc (.cells #[.int .u16 0] 44) = W
  obtain ⟨b0, b1, f1, wr⟩ := boxes w _ _ _ W hW
  have hM : Mem W B p v size zs st := by subst hW; exact (h.alloc _).alloc _
  clear hW h
  have C := cellIn hM hv a h0 h1
  obtain ⟨cc, cf⟩ := hM.cell hv h0 h1
  rw [hy] at cc
  have HY := Lib.hid hy
  have HM := Lib.hid hM
  have HV := Lib.hid hv
  have HWR := Lib.hid wr
  clear hM hv wr hy
  refine C.mono ?_
  rintro e w' ⟨rfl, rfl⟩
  clear C
  go_wp2
  have D := HM.out.setOther (q := ⟨w.heap.size + 1, 0, none⟩) (by simp; omega) (by rw [HV.out]; simp [Value.ownBlock]; omega) (.int .u16 0)
  have d0 := cellOther (W := W) (a := ⟨w.heap.size + 1, 0, none⟩) (b := ⟨w.heap.size, 0, none⟩) (.int .u16 0) (by simp) b0
  have d1 := cellSame (W := W) (a := ⟨w.heap.size + 1, 0, none⟩) (.int .u16 0) b1
  have d2 := cellOther (a := ⟨p, 2, none⟩) (.int .i64 (st + 1)) (by simp; omega) d1
  refine leaves_cons (f := 52) (args := #[.pointer (some ⟨w.heap.size, 0, none⟩), .pointer (some ⟨w.heap.size + 1, 0, none⟩)]) (by simp) (by simp [go_sem]) ?_
  refine (okLoad (p := p) (st := st) .returning d0 d1 D.c2 (D.f 2) k0 k1).mono ?_
  rintro e u' w'' ⟨rfl, rfl, rfl⟩
  refine ⟨_, by simp [results, Try.results26, go_sem, d2], rfl, _, D.setSteps (st + 1), ?_, Later.refl _ _⟩
  exact ((HWR.out p v).setCell (.inl (by simp)) _).setCell (.inr (.inl rfl)) _

set_option maxRecDepth 100000 in
set_option maxHeartbeats 1600000 in
theorem loadOut (h : Mem w B p v size zs st) (a : Int) (h0 : a < 0 ∨ zs.length ≤ a) :
    Calls Try.prog 26 #[.pointer (some ⟨p, 0, none⟩), .int .i64 a] w fun e w' => e = .returned (.tuple #[.int .i64 0, .int .u16 10]) ∧ Did B p v size zs st w w' := by
  have hpl := h.lt
  have hrl : ∀ g, v.ownBlock = some g → g < w.heap.size := fun g hg => (h.rowLt hg).2
  have hmf : ∀ (fn : Fn) (first cap : Array Value) (w : World), (Instr.makeFunc fn first cap).run Try.prog w = .ok (.func fn first cap) w := fun _ _ _ _ => rfl
  go_enter_defers Try.func26, Try.ntmps26
  go_wp2_with fail
  generalize hW : (w.alloc (.cells #[.pointer (some ⟨p, 0, none⟩)] 34)).alloc (.cells #[.int .u16 0] 44) = W
  obtain ⟨b0, b1, f1, wr⟩ := boxes w _ _ _ W hW
  have hM : Mem W B p v size zs st := by subst hW; exact (h.alloc _).alloc _
  clear hW h
  have C := cellOut hM a h0
  have HM := Lib.hid hM
  have HR := Lib.hid hrl
  have HWR := Lib.hid wr
  clear hM wr hrl h0
  refine C.mono ?_
  rintro e w' ⟨rfl, rfl⟩
  clear C
  go_wp2
  have D := HM.out.setOther (q := ⟨w.heap.size + 1, 0, none⟩) (by simp; omega) (fun e => by have := HR.out _ e; simp at this; omega) (.int .u16 10)
  have d0 := cellOther (a := ⟨w.heap.size + 1, 0, none⟩) (b := ⟨w.heap.size, 0, none⟩) (.int .u16 10) (by simp) b0
  have d1 := cellSame (a := ⟨w.heap.size + 1, 0, none⟩) (.int .u16 10) b1
  refine leaves_cons (f := 52) (args := #[.pointer (some ⟨w.heap.size, 0, none⟩), .pointer (some ⟨w.heap.size + 1, 0, none⟩)]) (by simp) (by simp [go_sem]) ?_
  refine (errLoad (p := p) .returning 10 (by omega) d0 d1).mono ?_
  rintro e u' w'' ⟨rfl, rfl, rfl⟩
  refine ⟨_, by simp [results, Try.results26, go_sem, d1], rfl, _, D, ?_, Later.refl _ _⟩
  exact (HWR.out p v).setCell (.inl (by simp)) _

set_option maxRecDepth 100000 in
set_option maxHeartbeats 1600000 in
theorem loadNil (w : World) (a : Int) :
    Calls Try.prog 26 #[.pointer none, .int .i64 a] w fun e w' => e = .returned (.tuple #[.int .i64 0, .int .u16 10]) ∧ Below w.heap.size w w' := by
  have hmf : ∀ (fn : Fn) (first cap : Array Value) (w : World), (Instr.makeFunc fn first cap).run Try.prog w = .ok (.func fn first cap) w := fun _ _ _ _ => rfl
  go_enter_defers Try.func26, Try.ntmps26
  go_wp2_with fail
  generalize hW : (w.alloc (.cells #[.pointer none] 34)).alloc (.cells #[.int .u16 0] 44) = W
  obtain ⟨b0, b1, f1, wr⟩ := boxes w _ _ _ W hW
  clear hW
  have HWR := Lib.hid wr
  clear wr
  refine (cellNil W a).mono ?_
  rintro e w' ⟨rfl, rfl⟩
  go_wp2
  have d0 := cellOther (a := ⟨w.heap.size + 1, 0, none⟩) (b := ⟨w.heap.size, 0, none⟩) (.int .u16 10) (by simp) b0
  have d1 := cellSame (a := ⟨w.heap.size + 1, 0, none⟩) (.int .u16 10) b1
  refine leaves_cons (f := 52) (args := #[.pointer (some ⟨w.heap.size, 0, none⟩), .pointer (some ⟨w.heap.size + 1, 0, none⟩)]) (by simp) (by simp [go_sem]) ?_
  refine (nilLoad .returning 10 d0 d1).mono ?_
  rintro e u' w'' ⟨rfl, rfl, rfl⟩
  refine ⟨_, by simp [results, Try.results26, go_sem, d1], rfl, ?_⟩
  exact ((HWR.out w.heap.size (.slice none 0 0)).setCell (.inl (by simp)) _).below (Nat.le_refl _) (Nat.le_refl _) (by simp [Value.ownBlock])

set_option maxRecDepth 100000 in
set_option maxHeartbeats 1600000 in
theorem storeIn (h : Mem w B p v size zs st) (a x : Int) (h0 : 0 ≤ a) (h1 : a < zs.length) (k0 : 0 ≤ st) (k1 : st < 1000000) :
    Calls Try.prog 19 #[.pointer (some ⟨p, 0, none⟩), .int .i64 a, .int .i64 x] w fun e w' => e = .returned (.int .u16 0) ∧ Did B p v size (zs.set a.toNat x) (st + 1) w w' := by
  obtain ⟨g, cap, hv, hgp, hBg, hgl⟩ := h.row (by omega)
  have hpl := h.lt
  obtain ⟨y, hy⟩ : ∃ y, zs.getD a.toNat 0 = y := ⟨_, rfl⟩
  skip
  have hmf : ∀ (fn : Fn) (first cap : Array Value) (w : World), (Instr.makeFunc fn first cap).run Try.prog w = .ok (.func fn first cap) w := fun _ _ _ _ => rfl
  go_enter_defers Try.func19, Try.ntmps19
  go_wp2_with fail
  generalize hW : (w.alloc (.cells #[.pointer (some ⟨p, 0, none⟩)] 34)).alloc (.cells #[.int .u16 0] 44) = W
  obtain ⟨b0, b1, f1, wr⟩ := boxes w _ _ _ W hW
  have hM : Mem W B p v size zs st := by subst hW; exact (h.alloc _).alloc _
  clear hW h
  have C := cellIn hM hv a h0 h1
  obtain ⟨cc, cf⟩ := hM.cell hv h0 h1
  rw [hy] at cc
  have b1' := cellOther (W := W) (a := ⟨g, a.toNat, none⟩) (b := ⟨w.heap.size + 1, 0, none⟩) (.int .i64 x) (by simp; omega) b1
  have HY := Lib.hid hy
  have HM := Lib.hid hM
  have HV := Lib.hid hv
  have HWR := Lib.hid wr
  clear hM hv wr hy
  refine C.mono ?_
  rintro e w' ⟨rfl, rfl⟩
  clear C
  go_wp2
  have D := (HM.out.setAt HV.out a.toNat x).setOther (q := ⟨w.heap.size + 1, 0, none⟩) (by simp; omega) (by rw [HV.out]; simp [Value.ownBlock]; omega) (.int .u16 0)
  have d0 := cellOther (W := W.setCell ⟨g, a.toNat, none⟩ (.int .i64 x)) (a := ⟨w.heap.size + 1, 0, none⟩) (b := ⟨w.heap.size, 0, none⟩) (.int .u16 0) (by simp) (cellOther _ (by simp; omega) b0)
  have d1 := cellSame (W := W.setCell ⟨g, a.toNat, none⟩ (.int .i64 x)) (a := ⟨w.heap.size + 1, 0, none⟩) (.int .u16 0) (cellOther _ (by simp; omega) b1)
  have d2 := cellOther (a := ⟨p, 2, none⟩) (.int .i64 (st + 1)) (by simp; omega) d1
  refine leaves_cons (f := 40) (args := #[.pointer (some ⟨w.heap.size, 0, none⟩), .pointer (some ⟨w.heap.size + 1, 0, none⟩)]) (by simp) (by simp [go_sem]) ?_
  refine (okStore (p := p) (st := st) .returning d0 d1 D.c2 (D.f 2) k0 k1).mono ?_
  rintro e u' w'' ⟨rfl, rfl, rfl⟩
  refine ⟨_, by simp [results, Try.results19, go_sem, d2], rfl, _, D.setSteps (st + 1), ?_, Later.refl _ _⟩
  exact (((HWR.out p v).setCell (.inr (.inr (by rw [HV.out]; rfl))) _).setCell (.inl (by simp)) _).setCell (.inr (.inl rfl)) _

set_option maxRecDepth 100000 in
set_option maxHeartbeats 1600000 in
theorem storeOut (h : Mem w B p v size zs st) (a x : Int) (h0 : a < 0 ∨ zs.length ≤ a) :
    Calls Try.prog 19 #[.pointer (some ⟨p, 0, none⟩), .int .i64 a, .int .i64 x] w fun e w' => e = .returned (.int .u16 10) ∧ Did B p v size zs st w w' := by
  have hpl := h.lt
  have hrl : ∀ g, v.ownBlock = some g → g < w.heap.size := fun g hg => (h.rowLt hg).2
  have hmf : ∀ (fn : Fn) (first cap : Array Value) (w : World), (Instr.makeFunc fn first cap).run Try.prog w = .ok (.func fn first cap) w := fun _ _ _ _ => rfl
  go_enter_defers Try.func19, Try.ntmps19
  go_wp2_with fail
  generalize hW : (w.alloc (.cells #[.pointer (some ⟨p, 0, none⟩)] 34)).alloc (.cells #[.int .u16 0] 44) = W
  obtain ⟨b0, b1, f1, wr⟩ := boxes w _ _ _ W hW
  have hM : Mem W B p v size zs st := by subst hW; exact (h.alloc _).alloc _
  clear hW h
  have C := cellOut hM a h0
  have HM := Lib.hid hM
  have HR := Lib.hid hrl
  have HWR := Lib.hid wr
  clear hM wr hrl h0
  refine C.mono ?_
  rintro e w' ⟨rfl, rfl⟩
  clear C
  go_wp2
  have D := HM.out.setOther (q := ⟨w.heap.size + 1, 0, none⟩) (by simp; omega) (fun e => by have := HR.out _ e; simp at this; omega) (.int .u16 10)
  have d0 := cellOther (a := ⟨w.heap.size + 1, 0, none⟩) (b := ⟨w.heap.size, 0, none⟩) (.int .u16 10) (by simp) b0
  have d1 := cellSame (a := ⟨w.heap.size + 1, 0, none⟩) (.int .u16 10) b1
  refine leaves_cons (f := 40) (args := #[.pointer (some ⟨w.heap.size, 0, none⟩), .pointer (some ⟨w.heap.size + 1, 0, none⟩)]) (by simp) (by simp [go_sem]) ?_
  refine (errStore (p := p) .returning 10 (by omega) d0 d1).mono ?_
  rintro e u' w'' ⟨rfl, rfl, rfl⟩
  refine ⟨_, by simp [results, Try.results19, go_sem, d1], rfl, _, D, ?_, Later.refl _ _⟩
  exact (HWR.out p v).setCell (.inl (by simp)) _

set_option maxRecDepth 100000 in
set_option maxHeartbeats 1600000 in
theorem storeNil (w : World) (a x : Int) :
    Calls Try.prog 19 #[.pointer none, .int .i64 a, .int .i64 x] w fun e w' => e = .returned (.int .u16 10) ∧ Below w.heap.size w w' := by
  have hmf : ∀ (fn : Fn) (first cap : Array Value) (w : World), (Instr.makeFunc fn first cap).run Try.prog w = .ok (.func fn first cap) w := fun _ _ _ _ => rfl
  go_enter_defers Try.func19, Try.ntmps19
  go_wp2_with fail
  generalize hW : (w.alloc (.cells #[.pointer none] 34)).alloc (.cells #[.int .u16 0] 44) = W
  obtain ⟨b0, b1, f1, wr⟩ := boxes w _ _ _ W hW
  clear hW
  have HWR := Lib.hid wr
  clear wr
  refine (cellNil W a).mono ?_
  rintro e w' ⟨rfl, rfl⟩
  go_wp2
  have d0 := cellOther (a := ⟨w.heap.size + 1, 0, none⟩) (b := ⟨w.heap.size, 0, none⟩) (.int .u16 10) (by simp) b0
  have d1 := cellSame (a := ⟨w.heap.size + 1, 0, none⟩) (.int .u16 10) b1
  refine leaves_cons (f := 40) (args := #[.pointer (some ⟨w.heap.size, 0, none⟩), .pointer (some ⟨w.heap.size + 1, 0, none⟩)]) (by simp) (by simp [go_sem]) ?_
  refine (nilStore .returning 10 d0 d1).mono ?_
  rintro e u' w'' ⟨rfl, rfl, rfl⟩
  refine ⟨_, by simp [results, Try.results19, go_sem, d1], rfl, ?_⟩
  exact ((HWR.out w.heap.size (.slice none 0 0)).setCell (.inl (by simp)) _).below (Nat.le_refl _) (Nat.le_refl _) (by simp [Value.ownBlock])

set_option maxRecDepth 100000 in
set_option maxHeartbeats 1600000 in
theorem swapIn (h : Mem w B p v size zs st) (a old x : Int) (h0 : 0 ≤ a) (h1 : a < zs.length) (ho : zs.getD a.toNat 0 = old) (k0 : 0 ≤ st) (k1 : st < 1000000) :
    Calls Try.prog 86 #[.pointer (some ⟨p, 0, none⟩), .int .i64 a, .int .i64 old, .int .i64 x] w fun e w' => e = .returned (.tuple #[.bool true, .int .u16 0]) ∧ Did B p v size (zs.set a.toNat x) (st + 1) w w' := by
  obtain ⟨g, cap, hv, hgp, hBg, hgl⟩ := h.row (by omega)
  have hpl := h.lt
  obtain ⟨y, hy⟩ : ∃ y, zs.getD a.toNat 0 = y := ⟨_, rfl⟩
  skip
  have hmf : ∀ (fn : Fn) (first cap : Array Value) (w : World), (Instr.makeFunc fn first cap).run Try.prog w = .ok (.func fn first cap) w := fun _ _ _ _ => rfl
  go_enter_defers Try.func86, Try.ntmps86
  go_wp2_with fail
  generalize hW : (w.alloc (.cells #[.pointer (some ⟨p, 0, none⟩)] 34)).alloc (.cells #[.int .u16 0] 44) = W
  obtain ⟨b0, b1, f1, wr⟩ := boxes w _ _ _ W hW
  have hM : Mem W B p v size zs st := by subst hW; exact (h.alloc _).alloc _
  clear hW h
  have C := cellIn hM hv a h0 h1
  obtain ⟨cc, cf⟩ := hM.cell hv h0 h1
  rw [hy] at cc
  obtain rfl : y = old := hy.symm.trans ho
  have b1' := cellOther (W := W) (a := ⟨g, a.toNat, none⟩) (b := ⟨w.heap.size + 1, 0, none⟩) (.int .i64 x) (by simp; omega) b1
  have HY := Lib.hid hy
  have HM := Lib.hid hM
  have HV := Lib.hid hv
  have HWR := Lib.hid wr
  clear hM hv wr hy
  refine C.mono ?_
  rintro e w' ⟨rfl, rfl⟩
  clear C
  go_wp2
  have D := (HM.out.setAt HV.out a.toNat x).setOther (q := ⟨w.heap.size + 1, 0, none⟩) (by simp; omega) (by rw [HV.out]; simp [Value.ownBlock]; omega) (.int .u16 0)
  have d0 := cellOther (W := W.setCell ⟨g, a.toNat, none⟩ (.int .i64 x)) (a := ⟨w.heap.size + 1, 0, none⟩) (b := ⟨w.heap.size, 0, none⟩) (.int .u16 0) (by simp) (cellOther _ (by simp; omega) b0)
  have d1 := cellSame (W := W.setCell ⟨g, a.toNat, none⟩ (.int .i64 x)) (a := ⟨w.heap.size + 1, 0, none⟩) (.int .u16 0) (cellOther _ (by simp; omega) b1)
  have d2 := cellOther (a := ⟨p, 2, none⟩) (.int .i64 (st + 1)) (by simp; omega) d1
  refine leaves_cons (f := 90) (args := #[.pointer (some ⟨w.heap.size, 0, none⟩), .pointer (some ⟨w.heap.size + 1, 0, none⟩)]) (by simp) (by simp [go_sem]) ?_
  refine (okSwap (p := p) (st := st) .returning d0 d1 D.c2 (D.f 2) k0 k1).mono ?_
  rintro e u' w'' ⟨rfl, rfl, rfl⟩
  refine ⟨_, by simp [results, Try.results86, go_sem, d2], rfl, _, D.setSteps (st + 1), ?_, Later.refl _ _⟩
  exact (((HWR.out p v).setCell (.inr (.inr (by rw [HV.out]; rfl))) _).setCell (.inl (by simp)) _).setCell (.inr (.inl rfl)) _

set_option maxRecDepth 100000 in
set_option maxHeartbeats 1600000 in
theorem swapNo (h : Mem w B p v size zs st) (a old x : Int) (h0 : 0 ≤ a) (h1 : a < zs.length) (ho : zs.getD a.toNat 0 ≠ old) (k0 : 0 ≤ st) (k1 : st < 1000000) :
    Calls Try.prog 86 #[.pointer (some ⟨p, 0, none⟩), .int .i64 a, .int .i64 old, .int .i64 x] w fun e w' => e = .returned (.tuple #[.bool false, .int .u16 0]) ∧ Did B p v size zs (st + 1) w w' := by
  obtain ⟨g, cap, hv, hgp, hBg, hgl⟩ := h.row (by omega)
  have hpl := h.lt
  obtain ⟨y, hy⟩ : ∃ y, zs.getD a.toNat 0 = y := ⟨_, rfl⟩
  skip
  have hmf : ∀ (fn : Fn) (first cap : Array Value) (w : World), (Instr.makeFunc fn first cap).run Try.prog w = .ok (.func fn first cap) w := fun _ _ _ _ => rfl
  go_enter_defers Try.func86, Try.ntmps86
  go_wp2_with fail
  generalize hW : (w.alloc (.cells #[.pointer (some ⟨p, 0, none⟩)] 34)).alloc (.cells #[.int .u16 0] 44) = W
  obtain ⟨b0, b1, f1, wr⟩ := boxes w _ _ _ W hW
  have hM : Mem W B p v size zs st := by subst hW; exact (h.alloc _).alloc _
  clear hW h
  have C := cellIn hM hv a h0 h1
  obtain ⟨cc, cf⟩ := hM.cell hv h0 h1
  rw [hy] at cc
  have hne : ¬ y = old := fun e => ho (hy.trans e)
  have HY := Lib.hid hy
  have HM := Lib.hid hM
  have HV := Lib.hid hv
  have HWR := Lib.hid wr
  clear hM hv wr hy
  refine C.mono ?_
  rintro e w' ⟨rfl, rfl⟩
  clear C
  go_wp2
  have D := HM.out.setOther (q := ⟨w.heap.size + 1, 0, none⟩) (by simp; omega) (by rw [HV.out]; simp [Value.ownBlock]; omega) (.int .u16 0)
  have d0 := cellOther (W := W) (a := ⟨w.heap.size + 1, 0, none⟩) (b := ⟨w.heap.size, 0, none⟩) (.int .u16 0) (by simp) b0
  have d1 := cellSame (W := W) (a := ⟨w.heap.size + 1, 0, none⟩) (.int .u16 0) b1
  have d2 := cellOther (a := ⟨p, 2, none⟩) (.int .i64 (st + 1)) (by simp; omega) d1
  refine leaves_cons (f := 90) (args := #[.pointer (some ⟨w.heap.size, 0, none⟩), .pointer (some ⟨w.heap.size + 1, 0, none⟩)]) (by simp) (by simp [go_sem]) ?_
  refine (okSwap (p := p) (st := st) .returning d0 d1 D.c2 (D.f 2) k0 k1).mono ?_
  rintro e u' w'' ⟨rfl, rfl, rfl⟩
  refine ⟨_, by simp [results, Try.results86, go_sem, d2], rfl, _, D.setSteps (st + 1), ?_, Later.refl _ _⟩
  exact ((HWR.out p v).setCell (.inl (by simp)) _).setCell (.inr (.inl rfl)) _

set_option maxRecDepth 100000 in
set_option maxHeartbeats 1600000 in
theorem swapOut (h : Mem w B p v size zs st) (a old x : Int) (h0 : a < 0 ∨ zs.length ≤ a) :
    Calls Try.prog 86 #[.pointer (some ⟨p, 0, none⟩), .int .i64 a, .int .i64 old, .int .i64 x] w fun e w' => e = .returned (.tuple #[.bool false, .int .u16 10]) ∧ Did B p v size zs st w w' := by
  have hpl := h.lt
  have hrl : ∀ g, v.ownBlock = some g → g < w.heap.size := fun g hg => (h.rowLt hg).2
  have hmf : ∀ (fn : Fn) (first cap : Array Value) (w : World), (Instr.makeFunc fn first cap).run Try.prog w = .ok (.func fn first cap) w := fun _ _ _ _ => rfl
  go_enter_defers Try.func86, Try.ntmps86
  go_wp2_with fail
  generalize hW : (w.alloc (.cells #[.pointer (some ⟨p, 0, none⟩)] 34)).alloc (.cells #[.int .u16 0] 44) = W
  obtain ⟨b0, b1, f1, wr⟩ := boxes w _ _ _ W hW
  have hM : Mem W B p v size zs st := by subst hW; exact (h.alloc _).alloc _
  clear hW h
  have C := cellOut hM a h0
  have HM := Lib.hid hM
  have HR := Lib.hid hrl
  have HWR := Lib.hid wr
  clear hM wr hrl h0
  refine C.mono ?_
  rintro e w' ⟨rfl, rfl⟩
  clear C
  go_wp2
  have D := HM.out.setOther (q := ⟨w.heap.size + 1, 0, none⟩) (by simp; omega) (fun e => by have := HR.out _ e; simp at this; omega) (.int .u16 10)
  have d0 := cellOther (a := ⟨w.heap.size + 1, 0, none⟩) (b := ⟨w.heap.size, 0, none⟩) (.int .u16 10) (by simp) b0
  have d1 := cellSame (a := ⟨w.heap.size + 1, 0, none⟩) (.int .u16 10) b1
  refine leaves_cons (f := 90) (args := #[.pointer (some ⟨w.heap.size, 0, none⟩), .pointer (some ⟨w.heap.size + 1, 0, none⟩)]) (by simp) (by simp [go_sem]) ?_
  refine (errSwap (p := p) .returning 10 (by omega) d0 d1).mono ?_
  rintro e u' w'' ⟨rfl, rfl, rfl⟩
  refine ⟨_, by simp [results, Try.results86, go_sem, d1], rfl, _, D, ?_, Later.refl _ _⟩
  exact (HWR.out p v).setCell (.inl (by simp)) _

set_option maxRecDepth 100000 in
set_option maxHeartbeats 1600000 in
theorem swapNil (w : World) (a old x : Int) :
    Calls Try.prog 86 #[.pointer none, .int .i64 a, .int .i64 old, .int .i64 x] w fun e w' => e = .returned (.tuple #[.bool false, .int .u16 10]) ∧ Below w.heap.size w w' := by
  have hmf : ∀ (fn : Fn) (first cap : Array Value) (w : World), (Instr.makeFunc fn first cap).run Try.prog w = .ok (.func fn first cap) w := fun _ _ _ _ => rfl
  go_enter_defers Try.func86, Try.ntmps86
  go_wp2_with fail
  generalize hW : (w.alloc (.cells #[.pointer none] 34)).alloc (.cells #[.int .u16 0] 44) = W
  obtain ⟨b0, b1, f1, wr⟩ := boxes w _ _ _ W hW
  clear hW
  have HWR := Lib.hid wr
  clear wr
  refine (cellNil W a).mono ?_
  rintro e w' ⟨rfl, rfl⟩
  go_wp2
  have d0 := cellOther (a := ⟨w.heap.size + 1, 0, none⟩) (b := ⟨w.heap.size, 0, none⟩) (.int .u16 10) (by simp) b0
  have d1 := cellSame (a := ⟨w.heap.size + 1, 0, none⟩) (.int .u16 10) b1
  refine leaves_cons (f := 90) (args := #[.pointer (some ⟨w.heap.size, 0, none⟩), .pointer (some ⟨w.heap.size + 1, 0, none⟩)]) (by simp) (by simp [go_sem]) ?_
  refine (nilSwap .returning 10 d0 d1).mono ?_
  rintro e u' w'' ⟨rfl, rfl, rfl⟩
  refine ⟨_, by simp [results, Try.results86, go_sem, d1], rfl, ?_⟩
  exact ((HWR.out w.heap.size (.slice none 0 0)).setCell (.inl (by simp)) _).below (Nat.le_refl _) (Nat.le_refl _) (by simp [Value.ownBlock])

end

end Go.Proofs.Ythefdglocnalhaa.M2
namespace Go.Proofs.Ythefdglocnalhaa.M2
open Go.RowKit

theorem infoInt64 : (Try.prog.info? 2).map (fun i => (i.zero, i.size, i.bytes)) = some (some (.int .i64 0), 1, 8) := by kernel_rfl

/-- SIZE: what is asked, from 0 to 1000. -/
def sizeOf' (n : Int) : Int := if n < 0 then 0 else if 1000 < n then 1000 else n
theorem sizeOf'_in (n : Int) : 0 ≤ sizeOf' n ∧ sizeOf' n ≤ 1000 := by unfold sizeOf'; repeat' split
                                                                      all_goals omega

theorem newAny (n : Int) (w : World) :
    Calls Try.prog 33 #[.int .i64 n] w fun e w' => e = .returned (.pointer (some ⟨w.heap.size, 0, none⟩)) ∧ Mem w' w.heap.size w.heap.size (.slice none 0 0) (sizeOf' n) [] 0 ∧ Below w.heap.size w w' := by
  have hb := sizeOf'_in n
  have fin : ∀ W, w.alloc (.cells #[.int .i64 (sizeOf' n), .slice none 0 0, .int .i64 0] 102) = W → Mem W w.heap.size w.heap.size (.slice none 0 0) (sizeOf' n) [] 0 ∧ Below w.heap.size w W := by
    rintro W rfl
    exact ⟨⟨heap_alloc_new w _, Nat.le_refl _, World.ownsRow_nil _ _ _ _, hb.1, hb.2, by simpa using hb.1⟩, (Below.refl _ _).alloc (Nat.le_refl _) _⟩
  have HF := Lib.hid fin
  clear fin hb
  rcases (show n < 0 ∨ 1000 < n ∨ (0 ≤ n ∧ n ≤ 1000) from by omega) with h | h | ⟨h, h'⟩
  · have e0 : sizeOf' n = 0 := by unfold sizeOf'; rw [if_pos h]
    rw [e0] at HF ⊢
    clear e0
    go_enter Try.func33, Try.ntmps33
    go_wp2
    go_ret
    exact ⟨rfl, HF.out _ rfl⟩
  · have e0 : sizeOf' n = 1000 := by unfold sizeOf'; rw [if_neg (by omega), if_pos h]
    rw [e0] at HF ⊢
    clear e0
    go_enter Try.func33, Try.ntmps33
    go_wp2
    go_ret
    exact ⟨rfl, HF.out _ rfl⟩
  · have e0 : sizeOf' n = n := by unfold sizeOf'; rw [if_neg (by omega), if_neg (by omega)]
    rw [e0] at HF ⊢
    clear e0
    go_enter Try.func33, Try.ntmps33
    go_wp2
    go_ret
    exact ⟨rfl, HF.out _ rfl⟩

end Go.Proofs.Ythefdglocnalhaa.M2
namespace Go.Proofs.Ythefdglocnalhaa.M2
open Go.RowKit

/-- Where a piece of code ends in the ordinary way alone, what is asked of its other ends is nothing. -/
theorem wp_noPanic {P : Program} {s : Code} {K : Act → World → Prop} {Q' : Exit → Act → World → Prop} {a : Act} {w : World} (first : s.wp P (Exit.then K (fun _ _ _ => False)) a w) : s.wp P (Exit.then K Q') a w := by
  refine Go.wp_mono first ?_
  intro e a' w' hq
  cases e with
  | normal => exact hq
  | exit id => exact False.elim hq
  | goto l => exact False.elim hq
  | ret => exact False.elim hq
  | panic ch => exact False.elim hq
  | outgrown => exact False.elim hq

theorem ownShape {w : World} {base : Nat} {e : TypeId} {v : Value} {n : Nat} {xs : List Value} (h : w.ownsRow base e 1 v n xs) : ∃ ao cap, v = .slice ao n cap := by
  rcases h.2 with ⟨rfl, e⟩ | ⟨g, cap, cur, rfl, _⟩
  · exact ⟨none, 0, by rw [e]⟩
  · exact ⟨_, cap, rfl⟩

theorem boxes1 (w : World) (m : Value) (t u : TypeId) : ∀ W, (w.alloc (.cells #[m] t)).alloc (.cells #[.int .u16 1] u) = W →
    W.cell? ⟨w.heap.size, 0, none⟩ = some m ∧ W.cell? ⟨w.heap.size + 1, 0, none⟩ = some (.int .u16 1) ∧ (∀ p v, Wrote p v w W) := by
  rintro W rfl
  refine ⟨?_, ?_, fun p v => ((Wrote.refl p v w).alloc _).alloc _⟩
  all_goals go_simp

section
variable {w : World} {B p : Nat} {v : Value} {size : Int} {zs : List Int} {st : Int}

/-- What stands behind the append, and behind the list's store. -/
theorem grew {W w1 : World} {N : Nat} {v' : Value} {m : Nat} {x : Value} (h : Mem W B p v size zs st) (_ : p < N) (b0 : W.cell? ⟨N, 0, none⟩ = some x) (b1 : W.cell? ⟨N + 1, 0, none⟩ = some (.int .u16 0)) (f1 : W.frozen? ⟨N + 1, 0, none⟩ = false)
    (hr : ∀ g, v.ownBlock = some g → g < N) (ho : w1.ownsRow B 2 1 v' (zs.length + m) (zs.map (Value.int .i64) ++ List.replicate m (.int .i64 0))) (hg : W.grownBy w1 v.ownBlock) (hl : ∀ g, v'.ownBlock = some g → v.ownBlock = some g ∨ W.heap.size ≤ g) :
    w1.cell? ⟨N, 0, none⟩ = some x ∧ w1.cell? ⟨N + 1, 0, none⟩ = some (.int .u16 0) ∧ w1.frozen? ⟨N + 1, 0, none⟩ = false ∧ w1.cell? ⟨p, 1, none⟩ = some v ∧ w1.frozen? ⟨p, 1, none⟩ = false ∧
    (((zs.length + m : Nat) : Int) ≤ size → Mem (w1.setCell ⟨p, 1, none⟩ v') B p v' size (zs ++ List.replicate m 0) st ∧ (∀ g, v'.ownBlock = some g → g ≠ N + 1)) := by
  have e0 : w1.heap[N]? = W.heap[N]? := hg.block N (World.block_lt_of_cell? W _ b0) (fun e => by have := hr N e.symm; omega)
  have e1 : w1.heap[N + 1]? = W.heap[N + 1]? := hg.block (N + 1) (World.block_lt_of_cell? W _ b1) (fun e => by have := hr (N + 1) e.symm; omega)
  have ep : w1.heap[p]? = W.heap[p]? := hg.block p h.lt (fun e => h.ne e.symm)
  have hN := World.block_lt_of_cell? W _ b1
  simp only at hN
  refine ⟨(World.cell?_of_block (a := ⟨N, 0, none⟩) e0).trans b0, (World.cell?_of_block (a := ⟨N + 1, 0, none⟩) e1).trans b1, (World.frozen?_of_block (a := ⟨N + 1, 0, none⟩) e1).trans f1, (World.cell?_of_block (a := ⟨p, 1, none⟩) ep).trans h.c1, (World.frozen?_of_block (a := ⟨p, 1, none⟩) ep).trans (h.f 1), ?_⟩
  intro hs
  have hne : v'.ownBlock ≠ some p := fun e => by
    rcases hl p e with e' | e'
    · exact h.ne e'
    · have := h.lt; omega
  refine ⟨⟨?_, h.low, ?_, h.s0, h.s1, by simpa using hs⟩, ?_⟩
  · rw [heap_setCell_same w1 p 1 _ _ _ (ep.trans h.block)]; rfl
  · have := ownsRow_setCell_other (a := ⟨p, 1, none⟩) ho hne v'
    simpa using this
  · intro g hg' e
    subst e
    rcases hl _ hg' with e' | e'
    · have := hr _ e'; omega
    · omega

set_option maxRecDepth 100000 in
set_option maxHeartbeats 3200000 in
theorem allocOk (h : Mem w B p v size zs st) (m : Nat) (hm : (m : Int) ≤ size - zs.length) (k0 : 0 ≤ st) (k1 : st < 1000000) :
    Calls Try.prog 35 #[.pointer (some ⟨p, 0, none⟩), .int .i64 (m : Int)] w fun e w' => e = .returned (.tuple #[.int .i64 (zs.length : Int), .int .u16 0]) ∧ Did B p v size (zs ++ List.replicate m 0) (st + 1) w w' := by
  have hpl := h.lt
  have s1 := h.s1
  have s2 := h.room
  have hrl : ∀ g, v.ownBlock = some g → g < w.heap.size := fun g hg => (h.rowLt hg).2
  obtain ⟨ao, cap, hv⟩ := h.shape
  obtain ⟨i0, hi, hz0, hz1, hz2⟩ := info_parts infoInt64
  have hmf : ∀ (fn : Fn) (first cap : Array Value) (w : World), (Instr.makeFunc fn first cap).run Try.prog w = .ok (.func fn first cap) w := fun _ _ _ _ => rfl
  go_enter_defers Try.func35, Try.ntmps35
  go_wp2_with fail
  generalize hW : (w.alloc (.cells #[.pointer (some ⟨p, 0, none⟩)] 34)).alloc (.cells #[.int .u16 0] 44) = W
  obtain ⟨b0, b1, f1, wr0⟩ := boxes w _ _ _ W hW
  have hM : Mem W B p v size zs st := by subst hW; exact (h.alloc _).alloc _
  clear hW h
  have C := roomAny hM
  have wr := wr0 p v
  clear wr0
  have HM := Lib.hid hM
  have HV := Lib.hid hv
  have HWR := Lib.hid wr
  have HR := Lib.hid hrl
  have HI := Lib.hid hi
  have H0 := Lib.hid hz0
  have H1 := Lib.hid hz1
  have H2 := Lib.hid hz2
  clear hM wr hrl hi hz0 hz1 hz2 hv
  refine C.mono ?_
  rintro e w' ⟨rfl, n, rfl⟩
  clear C
  have c1 := HM.out.c1
  rw [HV.out] at c1
  go_wp2
  have HM2 := Lib.hid (HM.out.drewN n)
  have HWR2 := Lib.hid (HWR.out.drewN n)
  have b0' : (W.drewN n).cell? ⟨w.heap.size, 0, none⟩ = some (.pointer (some ⟨p, 0, none⟩)) := b0
  have b1' : (W.drewN n).cell? ⟨w.heap.size + 1, 0, none⟩ = some (.int .u16 0) := b1
  have f1' : (W.drewN n).frozen? ⟨w.heap.size + 1, 0, none⟩ = false := f1
  have c1' : (W.drewN n).cell? ⟨p, 1, none⟩ = some (.slice ao zs.length cap) := c1
  clear b0 b1 f1 c1 HM HWR
  generalize W.drewN n = W2 at *
  have HO := Lib.hid HM2.out.own
  rw [HV.out] at HO
  have HB := Lib.hid HM2.out.base
  refine wp_noPanic ?_
  go_region_law ((refine step_append_zeros rfl (.tmp 24) (.tmp 25) 22 3 rfl B 2 .i64 i0 (.int .i64 0) Try.underlying22 Try.underlying3 HI.out H0.out H1.out H2.out rfl rfl (.slice ao zs.length cap) zs.length _ rfl HO.out m rfl (by omega) (by omega) HB.out ?_; intro v' w1 ho hg hl; obtain ⟨ao', cap', rfl⟩ := ownShape ho; rw [← HV.out] at hg hl; have hgr := grew HM2.out hpl b0' b1' f1' HR.out ho ⟨hg.os, hg.tape, hg.output, hg.size, hg.block⟩ hl; obtain ⟨x0, x1, x2, x3, x4, x5⟩ := hgr; have HX := Lib.hid x5; have HG := Lib.hid hg; have HL := Lib.hid hl; clear x5 ho hg hl; rw [HV.out] at x3))
  all_goals go_wp2
  all_goals
    obtain ⟨D0, D1⟩ := HX.out (by omega)
    have D := D0.setOther (q := ⟨w.heap.size + 1, 0, none⟩) (by simp; omega) (fun e => D1 _ e rfl) (.int .u16 0)
    have y0 := cellOther (a := ⟨w.heap.size + 1, 0, none⟩) (b := ⟨w.heap.size, 0, none⟩) (.int .u16 0) (by simp) (cellOther (a := ⟨p, 1, none⟩) (.slice ao' (zs.length + m) cap') (by simp; omega) x0)
    have y1 := cellSame (a := ⟨w.heap.size + 1, 0, none⟩) (.int .u16 0) (cellOther (a := ⟨p, 1, none⟩) (.slice ao' (zs.length + m) cap') (by simp; omega) x1)
    have y2 := cellOther (a := ⟨p, 2, none⟩) (.int .i64 (st + 1)) (by simp; omega) y1
    refine leaves_cons (f := 55) (args := #[.pointer (some ⟨w.heap.size, 0, none⟩), .pointer (some ⟨w.heap.size + 1, 0, none⟩)]) (by simp) (by simp [go_sem]) ?_
    refine (okAlloc (p := p) (st := st) .returning y0 y1 D.c2 (D.f 2) k0 k1).mono ?_
    rintro e u' w'' ⟨rfl, rfl, rfl⟩
    refine ⟨_, by simp [results, Try.results35, go_sem, y2], rfl, _, D.setSteps (st + 1), ?_, ?_⟩
    · exact (((HWR2.out.drew.grown HG.out).setCell (.inr (.inl rfl)) _).setCell (.inl (by simp)) _).setCell (.inr (.inl rfl)) _
    · intro g hg
      rcases HL.out g hg with e | e
      · exact .inl e
      · exact .inr (Nat.le_trans HWR2.out.size e)

set_option maxRecDepth 100000 in
set_option maxHeartbeats 1600000 in
theorem allocNeg (h : Mem w B p v size zs st) (n : Int) (hn : n < 0) :
    Calls Try.prog 35 #[.pointer (some ⟨p, 0, none⟩), .int .i64 n] w fun e w' => e = .returned (.tuple #[.int .i64 0, .int .u16 1]) ∧ Did B p v size zs st w w' := by
  have hpl := h.lt
  have s0 := h.s0
  have s1 := h.s1
  have s2 := h.room
  have hrl : ∀ g, v.ownBlock = some g → g < w.heap.size := fun g hg => (h.rowLt hg).2
  have hmf : ∀ (fn : Fn) (first cap : Array Value) (w : World), (Instr.makeFunc fn first cap).run Try.prog w = .ok (.func fn first cap) w := fun _ _ _ _ => rfl
  go_enter_defers Try.func35, Try.ntmps35
  go_wp2_with fail
  generalize hW : (w.alloc (.cells #[.pointer (some ⟨p, 0, none⟩)] 34)).alloc (.cells #[.int .u16 1] 44) = W
  obtain ⟨b0, b1, wr⟩ := boxes1 w _ _ _ W hW
  have hM : Mem W B p v size zs st := by subst hW; exact (h.alloc _).alloc _
  clear hW h
  have HM := Lib.hid hM
  have HR := Lib.hid hrl
  have HWR := Lib.hid wr
  clear hM wr hrl
  have HM2 := HM
  have HWR2 := HWR
  have b0' := b0
  have b1' := b1
  refine leaves_cons (f := 55) (args := #[.pointer (some ⟨w.heap.size, 0, none⟩), .pointer (some ⟨w.heap.size + 1, 0, none⟩)]) (by simp) (by simp [go_sem]) ?_
  refine (errAlloc (p := p) .returning 1 (by omega) b0' b1').mono ?_
  rintro e u' w'' ⟨rfl, rfl, rfl⟩
  refine ⟨_, by simp [results, Try.results35, go_sem, b1'], rfl, _, HM2.out, ?_, Later.refl _ _⟩
  exact HWR2.out p v

set_option maxRecDepth 100000 in
set_option maxHeartbeats 1600000 in
theorem allocFull (h : Mem w B p v size zs st) (n : Int) (hn : 0 ≤ n ∧ size - zs.length < n) :
    Calls Try.prog 35 #[.pointer (some ⟨p, 0, none⟩), .int .i64 n] w fun e w' => e = .returned (.tuple #[.int .i64 0, .int .u16 11]) ∧ Did B p v size zs st w w' := by
  have hpl := h.lt
  have s0 := h.s0
  have s1 := h.s1
  have s2 := h.room
  have hrl : ∀ g, v.ownBlock = some g → g < w.heap.size := fun g hg => (h.rowLt hg).2
  have hmf : ∀ (fn : Fn) (first cap : Array Value) (w : World), (Instr.makeFunc fn first cap).run Try.prog w = .ok (.func fn first cap) w := fun _ _ _ _ => rfl
  go_enter_defers Try.func35, Try.ntmps35
  go_wp2_with fail
  generalize hW : (w.alloc (.cells #[.pointer (some ⟨p, 0, none⟩)] 34)).alloc (.cells #[.int .u16 0] 44) = W
  obtain ⟨b0, b1, f1, wr⟩ := boxes w _ _ _ W hW
  have hM : Mem W B p v size zs st := by subst hW; exact (h.alloc _).alloc _
  clear hW h
  have C := roomAny hM
  have HM := Lib.hid hM
  have HR := Lib.hid hrl
  have HWR := Lib.hid wr
  clear hM wr hrl
  refine C.mono ?_
  rintro e w' ⟨rfl, n', rfl⟩
  clear C
  have HM2 := Lib.hid (HM.out.drewN n')
  have HWR2 := Lib.hid (fun p v => (HWR.out p v).drewN n')
  have b0' : (W.drewN n').cell? ⟨w.heap.size, 0, none⟩ = some (.pointer (some ⟨p, 0, none⟩)) := b0
  have b1' : (W.drewN n').cell? ⟨w.heap.size + 1, 0, none⟩ = some (.int .u16 0) := b1
  have f1' : (W.drewN n').frozen? ⟨w.heap.size + 1, 0, none⟩ = false := f1
  clear b0 b1 f1 HM HWR
  generalize W.drewN n' = W2 at *
  go_wp2
  have D := HM2.out.setOther (q := ⟨w.heap.size + 1, 0, none⟩) (by simp; omega) (fun e => by have := HR.out _ e; simp at this; omega) (.int .u16 11)
  have d0 := cellOther (a := ⟨w.heap.size + 1, 0, none⟩) (b := ⟨w.heap.size, 0, none⟩) (.int .u16 11) (by simp) b0'
  have d1 := cellSame (a := ⟨w.heap.size + 1, 0, none⟩) (.int .u16 11) b1'
  refine leaves_cons (f := 55) (args := #[.pointer (some ⟨w.heap.size, 0, none⟩), .pointer (some ⟨w.heap.size + 1, 0, none⟩)]) (by simp) (by simp [go_sem]) ?_
  refine (errAlloc (p := p) .returning 11 (by omega) d0 d1).mono ?_
  rintro e u' w'' ⟨rfl, rfl, rfl⟩
  refine ⟨_, by simp [results, Try.results35, go_sem, d1], rfl, _, D, ?_, Later.refl _ _⟩
  exact (HWR2.out p v).setCell (.inl (by simp)) _

set_option maxRecDepth 100000 in
set_option maxHeartbeats 1600000 in
theorem allocNilNeg (w : World) (n : Int) (hn : n < 0) :
    Calls Try.prog 35 #[.pointer none, .int .i64 n] w fun e w' => e = .returned (.tuple #[.int .i64 0, .int .u16 1]) ∧ Below w.heap.size w w' := by
  have hmf : ∀ (fn : Fn) (first cap : Array Value) (w : World), (Instr.makeFunc fn first cap).run Try.prog w = .ok (.func fn first cap) w := fun _ _ _ _ => rfl
  go_enter_defers Try.func35, Try.ntmps35
  go_wp2_with fail
  generalize hW : (w.alloc (.cells #[.pointer none] 34)).alloc (.cells #[.int .u16 1] 44) = W
  obtain ⟨b0, b1, wr⟩ := boxes1 w _ _ _ W hW
  clear hW
  have HWR := Lib.hid wr
  clear wr
  have HWR2 := HWR
  have b0' := b0
  have b1' := b1
  refine leaves_cons (f := 55) (args := #[.pointer (some ⟨w.heap.size, 0, none⟩), .pointer (some ⟨w.heap.size + 1, 0, none⟩)]) (by simp) (by simp [go_sem]) ?_
  refine (nilAlloc .returning 1 b0' b1').mono ?_
  rintro e u' w'' ⟨rfl, rfl, rfl⟩
  refine ⟨_, by simp [results, Try.results35, go_sem, b1'], rfl, ?_⟩
  exact (HWR2.out w.heap.size (.slice none 0 0)).below (Nat.le_refl _) (Nat.le_refl _) (by simp [Value.ownBlock])

set_option maxRecDepth 100000 in
set_option maxHeartbeats 1600000 in
theorem allocNilOk (w : World) :
    Calls Try.prog 35 #[.pointer none, .int .i64 0] w fun e w' => e = .returned (.tuple #[.int .i64 0, .int .u16 0]) ∧ Below w.heap.size w w' := by
  have hmf : ∀ (fn : Fn) (first cap : Array Value) (w : World), (Instr.makeFunc fn first cap).run Try.prog w = .ok (.func fn first cap) w := fun _ _ _ _ => rfl
  go_enter_defers Try.func35, Try.ntmps35
  go_wp2_with fail
  generalize hW : (w.alloc (.cells #[.pointer none] 34)).alloc (.cells #[.int .u16 0] 44) = W
  obtain ⟨b0, b1, f1, wr⟩ := boxes w _ _ _ W hW
  clear hW
  have HWR := Lib.hid wr
  clear wr
  refine (roomNil W).mono ?_
  rintro e w' ⟨rfl, n', rfl⟩
  have HWR2 := Lib.hid (fun p v => (HWR.out p v).drewN n')
  have b0' : (W.drewN n').cell? ⟨w.heap.size, 0, none⟩ = some (.pointer none) := b0
  have b1' : (W.drewN n').cell? ⟨w.heap.size + 1, 0, none⟩ = some (.int .u16 0) := b1
  have f1' : (W.drewN n').frozen? ⟨w.heap.size + 1, 0, none⟩ = false := f1
  clear b0 b1 f1 HWR
  generalize W.drewN n' = W2 at *
  go_wp2
  have d0 := cellOther (a := ⟨w.heap.size + 1, 0, none⟩) (b := ⟨w.heap.size, 0, none⟩) (.int .u16 0) (by simp) b0'
  have d1 := cellSame (a := ⟨w.heap.size + 1, 0, none⟩) (.int .u16 0) b1'
  refine leaves_cons (f := 55) (args := #[.pointer (some ⟨w.heap.size, 0, none⟩), .pointer (some ⟨w.heap.size + 1, 0, none⟩)]) (by simp) (by simp [go_sem]) ?_
  refine (nilAlloc .returning 0 d0 d1).mono ?_
  rintro e u' w'' ⟨rfl, rfl, rfl⟩
  refine ⟨_, by simp [results, Try.results35, go_sem, d1], rfl, ?_⟩
  exact ((HWR2.out w.heap.size (.slice none 0 0)).setCell (.inl (by simp)) _).below (Nat.le_refl _) (Nat.le_refl _) (by simp [Value.ownBlock])

set_option maxRecDepth 100000 in
set_option maxHeartbeats 1600000 in
theorem allocNilFull (w : World) (n : Int) (hn : 0 < n) :
    Calls Try.prog 35 #[.pointer none, .int .i64 n] w fun e w' => e = .returned (.tuple #[.int .i64 0, .int .u16 11]) ∧ Below w.heap.size w w' := by
  have hmf : ∀ (fn : Fn) (first cap : Array Value) (w : World), (Instr.makeFunc fn first cap).run Try.prog w = .ok (.func fn first cap) w := fun _ _ _ _ => rfl
  go_enter_defers Try.func35, Try.ntmps35
  go_wp2_with fail
  generalize hW : (w.alloc (.cells #[.pointer none] 34)).alloc (.cells #[.int .u16 0] 44) = W
  obtain ⟨b0, b1, f1, wr⟩ := boxes w _ _ _ W hW
  clear hW
  have HWR := Lib.hid wr
  clear wr
  refine (roomNil W).mono ?_
  rintro e w' ⟨rfl, n', rfl⟩
  have HWR2 := Lib.hid (fun p v => (HWR.out p v).drewN n')
  have b0' : (W.drewN n').cell? ⟨w.heap.size, 0, none⟩ = some (.pointer none) := b0
  have b1' : (W.drewN n').cell? ⟨w.heap.size + 1, 0, none⟩ = some (.int .u16 0) := b1
  have f1' : (W.drewN n').frozen? ⟨w.heap.size + 1, 0, none⟩ = false := f1
  clear b0 b1 f1 HWR
  generalize W.drewN n' = W2 at *
  go_wp2
  have d0 := cellOther (a := ⟨w.heap.size + 1, 0, none⟩) (b := ⟨w.heap.size, 0, none⟩) (.int .u16 11) (by simp) b0'
  have d1 := cellSame (a := ⟨w.heap.size + 1, 0, none⟩) (.int .u16 11) b1'
  refine leaves_cons (f := 55) (args := #[.pointer (some ⟨w.heap.size, 0, none⟩), .pointer (some ⟨w.heap.size + 1, 0, none⟩)]) (by simp) (by simp [go_sem]) ?_
  refine (nilAlloc .returning 11 d0 d1).mono ?_
  rintro e u' w'' ⟨rfl, rfl, rfl⟩
  refine ⟨_, by simp [results, Try.results35, go_sem, d1], rfl, ?_⟩
  exact ((HWR2.out w.heap.size (.slice none 0 0)).setCell (.inl (by simp)) _).below (Nat.le_refl _) (Nat.le_refl _) (by simp [Value.ownBlock])

end

end Go.Proofs.Ythefdglocnalhaa.M2
namespace Go.Proofs.Ythefdglocnalhaa.M2
open Go.RowKit

theorem sizeInt64 : (Try.prog.info? 2).map (·.size) = some 1 := by kernel_rfl

theorem madeFacts {w w1 : World} {g n : Nat} {ao : Option Addr} {Z : List Value} (ho : w1.ownsRow w.heap.size 2 1 (.slice (some ⟨g, 0, none⟩) n n) n (madeCells (Value.int .i64 0).cells (n * 1)).toList) (hg : w.grownBy w1 none)
    (hs : 0 < Z.length → ∃ ad, ao = some ad ∧ ∀ j u, Z[j]? = some u → w.cell? (ad.add j) = some u) :
    w1.heap[g]? = some (.cells (List.replicate n (.int .i64 0)).toArray 2 (0, 0)) ∧ (0 < Z.length → ∃ ad, ao = some ad ∧ ∀ j u, Z[j]? = some u → w1.cell? (ad.add j) = some u) ∧ Below w.heap.size w w1 := by
  refine ⟨?_, ?_, (Below.refl _ _).grown hg (Nat.le_refl _) (by simp)⟩
  · have := rowWhole ho
    rw [show (Value.int .i64 0).cells = #[Value.int .i64 0] from rfl, Nat.mul_one, toList_madeCells_one] at this
    exact this
  · intro hp
    obtain ⟨ad, rfl, hc⟩ := hs hp
    exact ⟨ad, rfl, fun j u hu => hg.cell (hc j u hu) (by simp)⟩

section
variable {w : World} {B p : Nat} {v : Value} {size : Int} {zs : List Int} {st : Int}

set_option maxRecDepth 100000 in
set_option maxHeartbeats 1600000 in
theorem cellsAny (h : Mem w B p v size zs st) :
    Calls Try.prog 25 #[.pointer (some ⟨p, 0, none⟩)] w fun e w' => e = .returned (.slice (some ⟨w.heap.size, 0, none⟩) zs.length zs.length) ∧
      w'.ownsRow w.heap.size 2 1 (.slice (some ⟨w.heap.size, 0, none⟩) zs.length zs.length) zs.length (zs.map (Value.int .i64)) ∧ Below w.heap.size w w' := by
  obtain ⟨ao, cap, hv⟩ := h.shape
  have hs : (zs.length : Int) ≤ 1000 := by have := h.s1; have := h.room; omega
  have hs' : zs.length ≤ 1000 := by omega
  have hpl := h.lt
  have c1 := h.c1
  rw [hv] at c1
  obtain ⟨i0, hi, hz0, hz1, hz2⟩ := info_parts infoInt64
  obtain ⟨Z, hZ⟩ : ∃ Z, Z = zs.map (Value.int .i64) := ⟨_, rfl⟩
  have hsrc : 0 < Z.length → ∃ ad, ao = some ad ∧ ∀ j u, Z[j]? = some u → w.cell? (ad.add j) = some u := by
    intro hp
    subst hZ
    obtain ⟨g, cap', hv', _⟩ := h.row (by simpa using hp)
    rw [hv] at hv'
    simp only [Value.slice.injEq, true_and] at hv'
    refine ⟨⟨g, 0, none⟩, hv'.1, ?_⟩
    exact h.own.cells (g := g) (by rw [hv, hv'.1]; rfl)
  have hlen : Z.length = zs.length := by rw [hZ]; simp
  have h1c : ∀ u ∈ Z, u.oneCell' = true := by subst hZ; exact ints_oneCell _ _
  rw [← hZ]
  have HI := Lib.hid hi
  have H0 := Lib.hid hz0
  have H1 := Lib.hid hz1
  have H2 := Lib.hid hz2
  have HL := Lib.hid hlen
  have HS := Lib.hid hsrc
  have HC := Lib.hid h1c
  clear hi hz0 hz1 hz2 hlen hsrc h1c hZ h hv
  go_enter Try.func25, Try.ntmps25
  go_wp2_with (first
    | (at_make; refine wpList_make_full _ rfl _ _ 22 rfl w.heap.size 2 i0 (.int .i64 0) 1 Try.underlying22 HI.out H0.out H1.out _ _ _ _ zs.length rfl rfl (by simp) (by simp) (by rw [H2.out]; omega) (by unfold maxLen; omega) (Nat.le_refl _) ?_; intro w1 ho hg; have c1' := hg.cell c1 (by simp); have HF := Lib.hid (madeFacts ho hg HS.out); clear ho hg)
    | (with_reducible refine wpList_copy_splice rfl (.tmp 12) (.tmp 16) 22 22 rfl 2 Try.underlying22 sizeInt64 _ _ _ _ _ _ rfl rfl w.heap.size 0 (List.replicate zs.length (.int .i64 0)) 2 HF.out.1 Z (by rw [HL.out]; simp) (fun hp => ⟨rfl, HF.out.2.1 hp⟩) (by rw [HL.out]; simp) HC.out w.heap.size w HF.out.2.2 (Nat.le_refl _) ?_; intro w2 hg2 hb2))
  go_ret
  refine ⟨rfl, ?_, hb2⟩
  have hb := hg2.out
  refine rowOf (Nat.le_refl _) HL.out (by unfold maxLen; omega) ?_
  rw [hb]
  simp [splice, HL.out]

theorem cellsNil (w : World) :
    Calls Try.prog 25 #[.pointer none] w fun e w' => e = .returned (.slice none 0 0) ∧ w = w' := by
  go_enter Try.func25, Try.ntmps25
  go_wp2
  go_ret
  exact ⟨rfl, rfl⟩

/-- What Copy leaves: a memory in new memory. -/
def Copied (w : World) (size : Int) (zs : List Int) (st : Int) (e : Ending) (w' : World) : Prop :=
  ∃ q, e = .returned (.pointer (some ⟨q, 0, none⟩)) ∧ Mem w' w.heap.size q (.slice (some ⟨w.heap.size, 0, none⟩) zs.length zs.length) size zs st ∧ Below w.heap.size w w'

theorem copied_mk {w1 : World} (s0 : 0 ≤ size) (s1 : size ≤ 1000) (hr : (zs.length : Int) ≤ size) (ho : w1.ownsRow w.heap.size 2 1 (.slice (some ⟨w.heap.size, 0, none⟩) zs.length zs.length) zs.length (zs.map (Value.int .i64))) (hb : Below w.heap.size w w1) :
    Copied w size zs st (.returned (.pointer (some ⟨w1.heap.size, 0, none⟩))) (w1.alloc (.cells #[.int .i64 size, .slice (some ⟨w.heap.size, 0, none⟩) zs.length zs.length, .int .i64 st] 102)) :=
  ⟨_, rfl, ⟨heap_alloc_new w1 _, hb.size, ho.alloc _, s0, s1, hr⟩, hb.alloc hb.size _⟩

end

end Go.Proofs.Ythefdglocnalhaa.M2
namespace Go.Proofs.Ythefdglocnalhaa.M2
open Go.RowKit

section
variable {w : World} {B p : Nat} {size : Int} {zs : List Int} {st : Int}

theorem alloc1 (h : Mem1 w B p size zs st) (n : Int) (h0 : 0 ≤ n) (h1 : n ≤ size - zs.length) (k0 : 0 ≤ st) (k1 : st < 1000000) :
    Calls Try.prog 35 #[.pointer (some ⟨p, 0, none⟩), .int .i64 n] w fun e w' => e = .returned (.tuple #[.int .i64 (zs.length : Int), .int .u16 0]) ∧ Mem1 w' B p size (zs ++ List.replicate n.toNat 0) (st + 1) ∧ Below B w w' := by
  obtain ⟨v, m⟩ := h
  have C := allocOk m n.toNat (by omega) k0 k1
  rw [Int.toNat_of_nonneg h0] at C
  exact C.mono fun e w' ⟨he, d⟩ => ⟨he, d.one m⟩

theorem allocNeg1 (h : Mem1 w B p size zs st) (n : Int) (hn : n < 0) :
    Calls Try.prog 35 #[.pointer (some ⟨p, 0, none⟩), .int .i64 n] w fun e w' => e = .returned (.tuple #[.int .i64 0, .int .u16 1]) ∧ Mem1 w' B p size zs st ∧ Below B w w' := by
  obtain ⟨v, m⟩ := h
  exact (allocNeg m n hn).mono fun e w' ⟨he, d⟩ => ⟨he, d.one m⟩

theorem allocFull1 (h : Mem1 w B p size zs st) (n : Int) (h0 : 0 ≤ n) (h1 : size - zs.length < n) :
    Calls Try.prog 35 #[.pointer (some ⟨p, 0, none⟩), .int .i64 n] w fun e w' => e = .returned (.tuple #[.int .i64 0, .int .u16 11]) ∧ Mem1 w' B p size zs st ∧ Below B w w' := by
  obtain ⟨v, m⟩ := h
  exact (allocFull m n ⟨h0, h1⟩).mono fun e w' ⟨he, d⟩ => ⟨he, d.one m⟩

theorem load1 (h : Mem1 w B p size zs st) (a : Int) (h0 : 0 ≤ a) (h1 : a < zs.length) (k0 : 0 ≤ st) (k1 : st < 1000000) :
    Calls Try.prog 26 #[.pointer (some ⟨p, 0, none⟩), .int .i64 a] w fun e w' => e = .returned (.tuple #[.int .i64 (zs.getD a.toNat 0), .int .u16 0]) ∧ Mem1 w' B p size zs (st + 1) ∧ Below B w w' := by
  obtain ⟨v, m⟩ := h
  exact (loadIn m a h0 h1 k0 k1).mono fun e w' ⟨he, d⟩ => ⟨he, d.one m⟩

theorem loadOut1 (h : Mem1 w B p size zs st) (a : Int) (h0 : a < 0 ∨ zs.length ≤ a) :
    Calls Try.prog 26 #[.pointer (some ⟨p, 0, none⟩), .int .i64 a] w fun e w' => e = .returned (.tuple #[.int .i64 0, .int .u16 10]) ∧ Mem1 w' B p size zs st ∧ Below B w w' := by
  obtain ⟨v, m⟩ := h
  exact (loadOut m a h0).mono fun e w' ⟨he, d⟩ => ⟨he, d.one m⟩

theorem store1 (h : Mem1 w B p size zs st) (a x : Int) (h0 : 0 ≤ a) (h1 : a < zs.length) (k0 : 0 ≤ st) (k1 : st < 1000000) :
    Calls Try.prog 19 #[.pointer (some ⟨p, 0, none⟩), .int .i64 a, .int .i64 x] w fun e w' => e = .returned (.int .u16 0) ∧ Mem1 w' B p size (zs.set a.toNat x) (st + 1) ∧ Below B w w' := by
  obtain ⟨v, m⟩ := h
  exact (storeIn m a x h0 h1 k0 k1).mono fun e w' ⟨he, d⟩ => ⟨he, d.one m⟩

theorem storeOut1 (h : Mem1 w B p size zs st) (a x : Int) (h0 : a < 0 ∨ zs.length ≤ a) :
    Calls Try.prog 19 #[.pointer (some ⟨p, 0, none⟩), .int .i64 a, .int .i64 x] w fun e w' => e = .returned (.int .u16 10) ∧ Mem1 w' B p size zs st ∧ Below B w w' := by
  obtain ⟨v, m⟩ := h
  exact (storeOut m a x h0).mono fun e w' ⟨he, d⟩ => ⟨he, d.one m⟩

theorem swap1 (h : Mem1 w B p size zs st) (a old x : Int) (h0 : 0 ≤ a) (h1 : a < zs.length) (ho : zs.getD a.toNat 0 = old) (k0 : 0 ≤ st) (k1 : st < 1000000) :
    Calls Try.prog 86 #[.pointer (some ⟨p, 0, none⟩), .int .i64 a, .int .i64 old, .int .i64 x] w fun e w' => e = .returned (.tuple #[.bool true, .int .u16 0]) ∧ Mem1 w' B p size (zs.set a.toNat x) (st + 1) ∧ Below B w w' := by
  obtain ⟨v, m⟩ := h
  exact (swapIn m a old x h0 h1 ho k0 k1).mono fun e w' ⟨he, d⟩ => ⟨he, d.one m⟩

theorem swapNo1 (h : Mem1 w B p size zs st) (a old x : Int) (h0 : 0 ≤ a) (h1 : a < zs.length) (ho : zs.getD a.toNat 0 ≠ old) (k0 : 0 ≤ st) (k1 : st < 1000000) :
    Calls Try.prog 86 #[.pointer (some ⟨p, 0, none⟩), .int .i64 a, .int .i64 old, .int .i64 x] w fun e w' => e = .returned (.tuple #[.bool false, .int .u16 0]) ∧ Mem1 w' B p size zs (st + 1) ∧ Below B w w' := by
  obtain ⟨v, m⟩ := h
  exact (swapNo m a old x h0 h1 ho k0 k1).mono fun e w' ⟨he, d⟩ => ⟨he, d.one m⟩

theorem swapOut1 (h : Mem1 w B p size zs st) (a old x : Int) (h0 : a < 0 ∨ zs.length ≤ a) :
    Calls Try.prog 86 #[.pointer (some ⟨p, 0, none⟩), .int .i64 a, .int .i64 old, .int .i64 x] w fun e w' => e = .returned (.tuple #[.bool false, .int .u16 10]) ∧ Mem1 w' B p size zs st ∧ Below B w w' := by
  obtain ⟨v, m⟩ := h
  exact (swapOut m a old x h0).mono fun e w' ⟨he, d⟩ => ⟨he, d.one m⟩

theorem top1 (h : Mem1 w B p size zs st) :
    Calls Try.prog 60 #[.pointer (some ⟨p, 0, none⟩)] w fun e w' => e = .returned (.int .i64 zs.length) ∧ w = w' := by
  obtain ⟨v, m⟩ := h
  exact topAny m

theorem steps1 (h : Mem1 w B p size zs st) :
    Calls Try.prog 30 #[.pointer (some ⟨p, 0, none⟩)] w fun e w' => e = .returned (.int .i64 st) ∧ w = w' := by
  obtain ⟨v, m⟩ := h
  exact stepsAny m

theorem cells1 (h : Mem1 w B p size zs st) :
    Calls Try.prog 25 #[.pointer (some ⟨p, 0, none⟩)] w fun e w' => e = .returned (.slice (some ⟨w.heap.size, 0, none⟩) zs.length zs.length) ∧
      w'.ownsRow w.heap.size 2 1 (.slice (some ⟨w.heap.size, 0, none⟩) zs.length zs.length) zs.length (zs.map (Value.int .i64)) ∧ Below w.heap.size w w' := by
  obtain ⟨v, m⟩ := h
  exact cellsAny m

theorem new1 (n : Int) (w : World) (h0 : 0 ≤ n) (h1 : n ≤ 1000) :
    Calls Try.prog 33 #[.int .i64 n] w fun e w' => e = .returned (.pointer (some ⟨w.heap.size, 0, none⟩)) ∧ Mem1 w' w.heap.size w.heap.size n [] 0 ∧ Below w.heap.size w w' := by
  have e0 : sizeOf' n = n := by unfold sizeOf'; rw [if_neg (by omega), if_neg (by omega)]
  have C := newAny n w
  rw [e0] at C
  exact C.mono fun e w' ⟨he, m, b⟩ => ⟨he, ⟨_, m⟩, b⟩
end

end Go.Proofs.Ythefdglocnalhaa.M2
namespace Go.Proofs.Ythefdglocnalhaa.M2
open Go.RowKit Go.ChangeShapes Go.WideShapes

/-- A list of numbers that came in. -/
def Nums (k : IntKind) (w : World) (ao : Option Addr) (len : Nat) (zs : List Int) : Prop :=
  Reads k w ao len zs ∧ len ≤ maxLen ∧ ∀ n ∈ zs, (Lit.int k n).wf = true

theorem reads_own {w : World} {base n : Nat} {ao : Option Addr} {cap : Nat} {zs : List Int} (h : w.ownsRow base 2 1 (.slice ao n cap) n (zs.map (Value.int .i64))) : Reads .i64 w ao n zs := by
  have hl : zs.length = n := by have := h.1; simpa using this
  refine ⟨hl, fun hp => ?_⟩
  rcases h.2 with ⟨h', e⟩ | ⟨g, cap', cur, h', _, hg, _⟩
  · omega
  · simp only [Value.slice.injEq] at h'
    obtain ⟨rfl, _, rfl⟩ := h'
    refine ⟨g, 0, rfl, lt_of_block hg, fun i hi => ?_⟩
    rw [Nat.zero_add, h.cellAt i (by omega)]
    simp [List.getD, hl, hi]

theorem openBytes {H : Type} {enc : TypeId × Value → H} {W : World} {a : Option Addr} {len cap : Nat} {d : DataW H} {ps : List MemPlace}
    (h : DataW.Trod enc Try.prog W 0 (fun _ => true) true 28 (.slice a len cap) d ps) : ∃ zs, Nums .u8 W a len zs := by
  obtain ⟨fuel, hf⟩ := h
  rcases open_ints Try.underlying28 Try.underlying5 (by kernel_rfl) hf with ⟨hcs, _⟩ | ⟨x, l, c, zs, hcs, _, hl, hm, hz, _, hcell, hwz⟩
  · simp [Value.cells] at hcs
    obtain ⟨rfl, rfl, rfl⟩ := hcs
    exact ⟨[], ⟨rfl, fun h => by omega⟩, by simp [maxLen], by simp⟩
  · simp [Value.cells] at hcs
    obtain ⟨rfl, rfl, rfl⟩ := hcs
    simp only [if_true] at hz
    refine ⟨zs.take len, ⟨by simp; omega, fun hp => ?_⟩, by omega, fun n hn => hwz n (List.mem_of_mem_take hn)⟩
    obtain ⟨b, off, spot⟩ := x
    have hspot : spot = none := by simpa [Addr.add] using World.cell?_spot (hcell 0 (by omega))
    subst hspot
    refine ⟨b, off, rfl, World.block_lt_of_cell? W _ (hcell 0 (by omega)), fun i hi => ?_⟩
    have := hcell i (by omega)
    rw [Addr.add_lit] at this
    rw [this]
    simp [List.getD, hi]

set_option maxRecDepth 100000 in
set_option maxHeartbeats 1600000 in
theorem sameEq (w : World) (a b : Option Addr) (len c d : Nat) (zs : List Int) (ha : Reads .i64 w a len zs) (hb : Reads .i64 w b len zs) (hl : len ≤ 1000000) :
    Calls Try.prog 24 #[.slice a len c, .slice b len d] w fun e w' => e = .returned (.bool true) ∧ Below w.heap.size w w' := by
  have HA := Lib.hid ha
  have HB := Lib.hid hb
  clear ha hb
  go_enter Try.func24, Try.ntmps24
  go_wp2
  go_loopw [5] (fun i wr => ∃ k : Nat, k ≤ len ∧ i = .int .i64 k ∧ Below w.heap.size w wr) (fun i _ => len - (intOf i).toNat)
  case atStart => exact ⟨0, Nat.zero_le _, rfl, Below.refl _ _⟩
  case round =>
    obtain ⟨k, hk, rfl, hbe⟩ := hrel
    have HE := Lib.hid hbe
    by_cases hlt : k < len
    · obtain ⟨b1, o1, rfl, l1, h1⟩ := (HA.out.keep hbe).2 (by omega)
      obtain ⟨b2, o2, rfl, l2, h2⟩ := (HB.out.keep hbe).2 (by omega)
      have c1 := h1 k hlt
      have c2 := h2 k hlt
      clear h1 h2 hbe
      generalize zs.getD k 0 = z at *
      have i0 : (k : Int) < len := by omega
      go_wp2
      go_quiet (fail)
      go_wp2
      go_roundw
      case rel => exact ⟨k + 1, by omega, by go_num, below_drewN HE.out _⟩
      case measure => simp [intOf]; omega
    · clear hbe
      go_wp2
      go_ret
      exact ⟨rfl, HE.out⟩

end Go.Proofs.Ythefdglocnalhaa.M2
namespace Go.Proofs.Ythefdglocnalhaa.M2
open Go.RowKit

/-- A memory of n cells, whatever they are. -/
def MemL (w : World) (B p : Nat) (size : Int) (n : Nat) (st : Int) : Prop := ∃ zs : List Int, zs.length = n ∧ Mem1 w B p size zs st

/-- What a call tells is not looked at. -/
def Goes (B p : Nat) (size : Int) (n : Nat) (st : Int) (w : World) (e : Ending) (w' : World) : Prop := ∃ r, e = .returned r ∧ MemL w' B p size n st ∧ Below B w w'

section
variable {w : World} {B p n : Nat} {size st : Int}
theorem loadLin (h : MemL w B p size n st) (a : Int) (h0 : 0 ≤ a) (h1 : a < n) (k0 : 0 ≤ st) (k1 : st < 1000000) :
    Calls Try.prog 26 #[.pointer (some ⟨p, 0, none⟩), .int .i64 a] w (Goes B p size n (st + 1) w) := by
  obtain ⟨zs, rfl, m⟩ := h
  exact (load1 m a h0 h1 k0 k1).mono fun e w' ⟨he, m', b⟩ => ⟨_, he, ⟨_, rfl, m'⟩, b⟩
theorem loadLout (h : MemL w B p size n st) (a : Int) (h1 : n ≤ a) :
    Calls Try.prog 26 #[.pointer (some ⟨p, 0, none⟩), .int .i64 a] w (Goes B p size n st w) := by
  obtain ⟨zs, rfl, m⟩ := h
  exact (loadOut1 m a (.inr h1)).mono fun e w' ⟨he, m', b⟩ => ⟨_, he, ⟨_, rfl, m'⟩, b⟩
theorem storeLin (h : MemL w B p size n st) (a x : Int) (h0 : 0 ≤ a) (h1 : a < n) (k0 : 0 ≤ st) (k1 : st < 1000000) :
    Calls Try.prog 19 #[.pointer (some ⟨p, 0, none⟩), .int .i64 a, .int .i64 x] w (Goes B p size n (st + 1) w) := by
  obtain ⟨zs, rfl, m⟩ := h
  exact (store1 m a x h0 h1 k0 k1).mono fun e w' ⟨he, m', b⟩ => ⟨_, he, ⟨_, by simp, m'⟩, b⟩
theorem storeLout (h : MemL w B p size n st) (a x : Int) (h1 : n ≤ a) :
    Calls Try.prog 19 #[.pointer (some ⟨p, 0, none⟩), .int .i64 a, .int .i64 x] w (Goes B p size n st w) := by
  obtain ⟨zs, rfl, m⟩ := h
  exact (storeOut1 m a x (.inr h1)).mono fun e w' ⟨he, m', b⟩ => ⟨_, he, ⟨_, rfl, m'⟩, b⟩
theorem swapLin (h : MemL w B p size n st) (a old x : Int) (h0 : 0 ≤ a) (h1 : a < n) (k0 : 0 ≤ st) (k1 : st < 1000000) :
    Calls Try.prog 86 #[.pointer (some ⟨p, 0, none⟩), .int .i64 a, .int .i64 old, .int .i64 x] w (Goes B p size n (st + 1) w) := by
  obtain ⟨zs, rfl, m⟩ := h
  by_cases ho : zs.getD a.toNat 0 = old
  · exact (swap1 m a old x h0 h1 ho k0 k1).mono fun e w' ⟨he, m', b⟩ => ⟨_, he, ⟨_, by simp, m'⟩, b⟩
  · exact (swapNo1 m a old x h0 h1 ho k0 k1).mono fun e w' ⟨he, m', b⟩ => ⟨_, he, ⟨_, rfl, m'⟩, b⟩
theorem swapLout (h : MemL w B p size n st) (a old x : Int) (h1 : n ≤ a) :
    Calls Try.prog 86 #[.pointer (some ⟨p, 0, none⟩), .int .i64 a, .int .i64 old, .int .i64 x] w (Goes B p size n st w) := by
  obtain ⟨zs, rfl, m⟩ := h
  exact (swapOut1 m a old x (.inr h1)).mono fun e w' ⟨he, m', b⟩ => ⟨_, he, ⟨_, rfl, m'⟩, b⟩
theorem topL (h : MemL w B p size n st) :
    Calls Try.prog 60 #[.pointer (some ⟨p, 0, none⟩)] w fun e w' => e = .returned (.int .i64 n) ∧ w = w' := by
  obtain ⟨zs, rfl, m⟩ := h
  exact top1 m
theorem stepsL (h : MemL w B p size n st) :
    Calls Try.prog 30 #[.pointer (some ⟨p, 0, none⟩)] w fun e w' => e = .returned (.int .i64 st) ∧ w = w' := by
  obtain ⟨zs, rfl, m⟩ := h
  exact steps1 m
end

section
variable {w : World} {B p n : Nat} {size st : Int}
theorem allocL (h : MemL w B p size n st) (a : Int) (h0 : 0 ≤ a) (h1 : a ≤ size - n) (k0 : 0 ≤ st) (k1 : st < 1000000) :
    Calls Try.prog 35 #[.pointer (some ⟨p, 0, none⟩), .int .i64 a] w fun e w' => e = .returned (.tuple #[.int .i64 (n : Int), .int .u16 0]) ∧ MemL w' B p size (n + a.toNat) (st + 1) ∧ Below B w w' := by
  obtain ⟨zs, rfl, m⟩ := h
  exact (alloc1 m a h0 h1 k0 k1).mono fun e w' ⟨he, m', b⟩ => ⟨he, ⟨_, by simp, m'⟩, b⟩
theorem allocLfull (h : MemL w B p size n st) (a : Int) (h0 : 0 ≤ a) (h1 : size - n < a) :
    Calls Try.prog 35 #[.pointer (some ⟨p, 0, none⟩), .int .i64 a] w fun e w' => e = .returned (.tuple #[.int .i64 0, .int .u16 11]) ∧ MemL w' B p size n st ∧ Below B w w' := by
  obtain ⟨zs, rfl, m⟩ := h
  exact (allocFull1 m a h0 h1).mono fun e w' ⟨he, m', b⟩ => ⟨he, ⟨_, rfl, m'⟩, b⟩
theorem allocLneg (h : MemL w B p size n st) (a : Int) (h0 : a < 0) :
    Calls Try.prog 35 #[.pointer (some ⟨p, 0, none⟩), .int .i64 a] w fun e w' => e = .returned (.tuple #[.int .i64 0, .int .u16 1]) ∧ MemL w' B p size n st ∧ Below B w w' := by
  obtain ⟨zs, rfl, m⟩ := h
  exact (allocNeg1 m a h0).mono fun e w' ⟨he, m', b⟩ => ⟨he, ⟨_, rfl, m'⟩, b⟩
theorem loadLno (h : MemL w B p size n st) (a : Int) (h0 : a < 0 ∨ n ≤ a) :
    Calls Try.prog 26 #[.pointer (some ⟨p, 0, none⟩), .int .i64 a] w fun e w' => e = .returned (.tuple #[.int .i64 0, .int .u16 10]) ∧ MemL w' B p size n st ∧ Below B w w' := by
  obtain ⟨zs, rfl, m⟩ := h
  exact (loadOut1 m a h0).mono fun e w' ⟨he, m', b⟩ => ⟨he, ⟨_, rfl, m'⟩, b⟩
theorem storeLno (h : MemL w B p size n st) (a x : Int) (h0 : a < 0 ∨ n ≤ a) :
    Calls Try.prog 19 #[.pointer (some ⟨p, 0, none⟩), .int .i64 a, .int .i64 x] w fun e w' => e = .returned (.int .u16 10) ∧ MemL w' B p size n st ∧ Below B w w' := by
  obtain ⟨zs, rfl, m⟩ := h
  exact (storeOut1 m a x h0).mono fun e w' ⟨he, m', b⟩ => ⟨he, ⟨_, rfl, m'⟩, b⟩
theorem swapLno (h : MemL w B p size n st) (a old x : Int) (h0 : a < 0 ∨ n ≤ a) :
    Calls Try.prog 86 #[.pointer (some ⟨p, 0, none⟩), .int .i64 a, .int .i64 old, .int .i64 x] w fun e w' => e = .returned (.tuple #[.bool false, .int .u16 10]) ∧ MemL w' B p size n st ∧ Below B w w' := by
  obtain ⟨zs, rfl, m⟩ := h
  exact (swapOut1 m a old x h0).mono fun e w' ⟨he, m', b⟩ => ⟨he, ⟨_, rfl, m'⟩, b⟩
theorem swapLyes (h : MemL w B p size n st) (a old x : Int) (h0 : 0 ≤ a) (h1 : a < n) (k0 : 0 ≤ st) (k1 : st < 1000000) :
    Calls Try.prog 86 #[.pointer (some ⟨p, 0, none⟩), .int .i64 a, .int .i64 old, .int .i64 x] w fun e w' => ∃ b, e = .returned (.tuple #[.bool b, .int .u16 0]) ∧ MemL w' B p size n (st + 1) ∧ Below B w w' := by
  obtain ⟨zs, rfl, m⟩ := h
  by_cases ho : zs.getD a.toNat 0 = old
  · exact (swap1 m a old x h0 h1 ho k0 k1).mono fun e w' ⟨he, m', b⟩ => ⟨_, he, ⟨_, by simp, m'⟩, b⟩
  · exact (swapNo1 m a old x h0 h1 ho k0 k1).mono fun e w' ⟨he, m', b⟩ => ⟨_, he, ⟨_, rfl, m'⟩, b⟩
end

end Go.Proofs.Ythefdglocnalhaa.M2
