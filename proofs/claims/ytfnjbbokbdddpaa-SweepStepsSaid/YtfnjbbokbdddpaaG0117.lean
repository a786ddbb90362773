/-
  Which blocks a call may touch: those of a set, and new ones; append on a row of one's own, and where the row lies behind it; lists of numbers that lie in memory. Conditions: none; no Go function is looked at here. What came in: an operation and a result by value; lists of bytes, of int64 and of whatever elements of as many cells each; each read as what its cells hold. Conditions: none. What 'append(s, make([]T, m)...)' does where s is a row of the call's own: as many noughts more, in the row or in a new one. Conditions: elements of one cell and eight bytes; at most a million elements of either. No Go function is looked at here. What a memory of package cells is in the model's world, what its calls may touch, and the plain functions that say what they answer. Conditions: none; no Go function is looked at here. What New, Top, Steps, room, cell and count of package cells do, and the deferred functions that count: each for every memory, and for nil. Conditions: a memory as Mem says; steps below a million. What Load, Store and Swap of package cells do: where the cell is there, where it is not, and at nil. Conditions: a memory as Mem says; steps below a million. What New, Alloc, Cells and Copy of package cells do, at every memory and at nil. Conditions: a memory as Mem says; steps below a million. What Alloc of package cells does, at every memory and at nil. Conditions: a memory as Mem says; steps below a million. What Cells and Copy of package cells do, at every memory and at nil: numbers in new memory, a memory in new memory; all old memory is as it was. Conditions: a memory as Mem says. The calls of package cells where one memory is looked at: what it is behind each call, and that nothing below the block B is touched; and the example that every statement asks ('known'). Conditions: a memory as Mem1 says; steps below a million.
-/
import Derived.Test.YtfnjbbokbdddpaaProg
import Derived.WalkKit
import Derived.ProofKit
import Derived.Below
import Derived.RowKit3
import Derived.WalkSmall
import Derived.OneCell
import Derived.OwnWalk
import Derived.Laws.CopyOwn
import Derived.Laws.AppendOwnNone
import Derived.Deep.RegionLaw
import Derived.Deep.QuietTactic
import Derived.Deep.Cut
import Derived.BigQuiet
import Derived.IntWalk
import Derived.Lib.Hide
import Derived.Laws.StructEq
import Derived.KernelRfl
import Derived.StillTailTactics
import Derived.Deep.RegionHeld3
import Derived.ChangeSlices
import Derived.OpenShut
import Derived.Deep.Slices
import Derived.Deep.Fields
import Derived.SizedLaws
import Derived.Lib.SmallJoins
import Derived.Defers
namespace Go.Proofs.Ytfnjbbokbdddpaa
open Go.RowKit

structure Wrote (F : Nat → Prop) (w w' : World) : Prop where
  os : w'.os = w.os
  tape : w'.tape = w.tape
  output : w'.output = w.output
  size : w.heap.size ≤ w'.heap.size
  block : ∀ k, k < w.heap.size → ¬ F k → w'.heap[k]? = w.heap[k]?

def Later (F F' : Nat → Prop) (w : World) : Prop := ∀ g, F' g → F g ∨ w.heap.size ≤ g

theorem Later.refl (F : Nat → Prop) (w : World) : Later F F w := fun _ h => .inl h
section
variable {F : Nat → Prop} {a b c w w' : World}
theorem Wrote.refl (F : Nat → Prop) (w : World) : Wrote F w w := ⟨rfl, rfl, rfl, Nat.le_refl _, fun _ _ _ => rfl⟩
theorem Wrote.trans (h : Wrote F a b) (k : Wrote F b c) : Wrote F a c :=
  ⟨k.os.trans h.os, k.tape.trans h.tape, k.output.trans h.output, Nat.le_trans h.size k.size, fun i hi h1 => (k.block i (Nat.lt_of_lt_of_le hi h.size) h1).trans (h.block i hi h1)⟩
theorem Wrote.step {F' : Nat → Prop} (h : Wrote F a b) (hl : Later F F' a) (k : Wrote F' b c) : Wrote F a c :=
  ⟨k.os.trans h.os, k.tape.trans h.tape, k.output.trans h.output, Nat.le_trans h.size k.size, fun i hi h1 => (k.block i (Nat.lt_of_lt_of_le hi h.size) (fun e => by
    rcases hl i e with h2 | h2
    · exact h1 h2
    · omega)).trans (h.block i hi h1)⟩
theorem Wrote.below {B : Nat} (h : Wrote F w w') (hB : B ≤ w.heap.size) (hF : ∀ g, F g → B ≤ g) : Below B w w' :=
  ⟨h.os, h.tape, h.output, h.size, fun k hk => h.block k (by omega) (fun e => by have := hF k e; omega)⟩
theorem Wrote.alloc (h : Wrote F a w) (o : Obj) : Wrote F a (w.alloc o) := h.trans ⟨rfl, rfl, rfl, by simp, fun k hk _ => Below.heap_alloc _ _ _ hk⟩
theorem Wrote.drewN (h : Wrote F a w) (n : Nat) : Wrote F a (w.drewN n) := ⟨h.os, h.tape, h.output, h.size, h.block⟩
theorem Wrote.drew (h : Wrote F a w) : Wrote F a w.drew := ⟨h.os, h.tape, h.output, h.size, h.block⟩
theorem Wrote.setCell (h : Wrote F a w) {q : Addr} (hq : a.heap.size ≤ q.block ∨ F q.block) (u : Value) : Wrote F a (w.setCell q u) :=
  ⟨h.os, h.tape, h.output, by simpa [World.setCell] using h.size, fun k hk h1 => by
    rw [Below.heap_setCell _ _ _ _ (by
      rintro rfl
      rcases hq with h' | h'
      · omega
      · exact h1 h')]
    exact h.block k hk h1⟩
theorem Wrote.grown {row : Option Nat} (h : Wrote F a w) (hg : w.grownBy w' row) (hr : ∀ g, row = some g → F g ∨ a.heap.size ≤ g) : Wrote F a w' :=
  ⟨hg.os.trans h.os, hg.tape.trans h.tape, hg.output.trans h.output, Nat.le_trans h.size hg.size, fun k hk h1 => (hg.block k (Nat.lt_of_lt_of_le hk h.size) (fun e => by
    rcases hr k e.symm with h' | h'
    · exact h1 h'
    · omega)).trans (h.block k hk h1)⟩
end

theorem cellSame {W : World} {a : Addr} {u : Value} (x : Value) (h : W.cell? a = some u) : (W.setCell a x).cell? a = some x := by
  apply World.cell?_setCell_same; exact h
theorem cellOther {W : World} {a b : Addr} {u : Value} (x : Value) (hb : b.block ≠ a.block) (h : W.cell? b = some u) : (W.setCell a x).cell? b = some u :=
  (World.cell?_of_block (Below.heap_setCell _ _ _ _ hb)).trans h

theorem run_append_later {P : Program} (w : World) (base : Nat) (t ty e : TypeId) (i : TypeInfo) (z : Value) (size bytes : Nat) (ht : P.underlying t = some (.slice e)) (hi : P.info? e = some i) (hz : i.zero = some z)
    (hsize : i.size = size) (hby : i.bytes = bytes) (hzs : z.cells.size = size) (hsz : 0 < size)
    (v : Value) (n : Nat) (xs : List Value) (hown : w.ownsRow base e size v n xs)
    (a : Addr) (m c : Nat) (news : List Value) (hl : news.length = m * size) (hnews : ∀ j u, news[j]? = some u → w.cell? (a.add j) = some u) (h1 : ∀ u ∈ news, u.oneCell' = true)
    (h63 : n + m ≤ maxLen) (hbytes : (n + m) * bytes ≤ 140737488355328) (hbase : base ≤ w.heap.size) :
    ∃ v' w', (Builtin.append_ #[t, t] ty #[v, .slice (some a) m c]).run P w = .ok v' w' ∧ w'.ownsRow base e size v' (n + m) (xs ++ news) ∧ w.grownBy w' v.ownBlock ∧
      (∀ g, v'.ownBlock = some g → v.ownBlock = some g ∨ w.heap.size ≤ g) := by
  obtain ⟨v', w', hr, h2, h3, _⟩ := run_append_own (P := P) w base t ty e i z size bytes ht hi hz hsize hby hzs hsz v n xs hown a m c news hl hnews h1 h63 hbytes hbase
  refine ⟨v', w', hr, h2, h3, ?_⟩
  intro g hg
  rcases hown.2 with ⟨rfl, rfl⟩ | ⟨g0, cap, cur, rfl, hbg, hg0, hnc, hcm, hcs, htake⟩
  · have hx : xs = [] := List.eq_nil_of_length_eq_zero (by simpa using hown.1)
    subst hx
    obtain ⟨v2, w2, hr2, h22, _⟩ := run_append_own (P := P) w w.heap.size t ty e i z size bytes ht hi hz hsize hby hzs hsz _ 0 [] (World.ownsRow_nil w w.heap.size e size) a m c news hl hnews h1 h63 hbytes (Nat.le_refl _)
    rw [hr] at hr2
    injection hr2 with e1 e2
    subst e1
    exact .inr (h22.lt g hg).1
  · by_cases hroom : n + m ≤ cap
    · obtain ⟨w2, hr2, _⟩ := run_append_fits (P := P) w base t ty e i size ht hi hsize g0 n cap xs hown a m c news hl hnews h1 hroom
      rw [hr] at hr2
      injection hr2 with e1 e2
      subst e1
      exact .inl (by simpa [Value.ownBlock] using hg)
    · have holds : ∀ j u, xs[j]? = some u → w.cell? ((⟨g0, 0, none⟩ : Addr).add j) = some u := hown.cells (g := g0) rfl
      subst hsize
      subst hby
      have hsmall : n + m ≤ 9223372036854775807 := by simp only [maxLen] at h63; omega
      have hr2 := run_append_grow (P := P) w t ty e i z ht hi hz ⟨g0, 0, none⟩ n cap xs hown.1 holds a m c news hl hnews (by omega) (by omega) (growslice_fits (by omega) hbytes)
      rw [hr] at hr2
      injection hr2 with e1 e2
      subst e1
      simp only [Value.ownBlock, Option.some.injEq] at hg
      exact .inr (by omega)

theorem wpList_append_later {P : Program} {w : World} {ops : Array Oper} {rest : List Oper} {o : Oper} {a : Act} {Q : Exit → Act → World → Prop} (hgd : o.guard = none) (s x : Operand) (t : TypeId)
    (ho : o.op = .call { callee := .builtin .append, args := #[s, x], argTypes := #[t, t] })
    (base : Nat) (e : TypeId) (i : TypeInfo) (z : Value) (size bytes : Nat) (ht : P.underlying t = some (.slice e)) (hi : P.info? e = some i) (hz : i.zero = some z)
    (hsize : i.size = size) (hby : i.bytes = bytes) (hzs : z.cells.size = size) (hsz : 0 < size)
    (v : Value) (n : Nat) (xs : List Value) (hs : a.eval s = v) (hown : w.ownsRow base e size v n xs)
    (ad : Addr) (m c : Nat) (news : List Value) (hx : a.eval x = .slice (some ad) m c) (hl : news.length = m * size) (hnews : ∀ j u, news[j]? = some u → w.cell? (ad.add j) = some u) (h1 : ∀ u ∈ news, u.oneCell' = true)
    (h63 : n + m ≤ maxLen) (hbytes : (n + m) * bytes ≤ 140737488355328) (hbase : base ≤ w.heap.size)
    (h : ∀ v' w', w'.ownsRow base e size v' (n + m) (xs ++ news) → w.grownBy w' v.ownBlock → (∀ g, v'.ownBlock = some g → v.ownBlock = some g ∨ w.heap.size ≤ g) → wpList P ops Q rest (a.put o.dst v') w') : wpList P ops Q (o :: rest) a w := by
  refine wpList_plain hgd fun K hK => ?_
  obtain ⟨v', w', hr, h2, h3, h4⟩ := run_append_later (P := P) w base t o.type e i z size bytes ht hi hz hsize hby hzs hsz v n xs hown ad m c news hl hnews h1 h63 hbytes hbase
  unfold Oper.wp
  simp [execOp, ho, resolve, invoke, builtin, hs, hx, hr, Result.andThen]
  exact hK _ _ (h v' w' h2 h3 h4)

def Reads (k : IntKind) (w : World) (ao : Option Addr) (len : Nat) (zs : List Int) : Prop :=
  zs.length = len ∧ (0 < len → ∃ b off, ao = some ⟨b, off, none⟩ ∧ b < w.heap.size ∧ ∀ i, i < len → w.cell? ⟨b, off + i, none⟩ = some (.int k (zs.getD i 0)))

theorem Reads.keep {k : IntKind} {w w' : World} {ao : Option Addr} {len : Nat} {zs : List Int} (h : Reads k w ao len zs) (hb : Below w.heap.size w w') : Reads k w' ao len zs := by
  refine ⟨h.1, fun hp => ?_⟩
  obtain ⟨b, off, e, hl, hc⟩ := h.2 hp
  exact ⟨b, off, e, Nat.lt_of_lt_of_le hl hb.size, fun i hi => (hb.cell (p := ⟨b, off + i, none⟩) hl).trans (hc i hi)⟩

theorem reads_own {k : IntKind} {w : World} {base n : Nat} {e : TypeId} {v : Value} {zs : List Int} (h : w.ownsRow base e 1 v n (zs.map (Value.int k))) : ∃ ao cap, v = .slice ao n cap ∧ Reads k w ao n zs ∧ n ≤ cap ∧ (∀ a, ao = some a → base ≤ a.block) := by
  have hl : zs.length = n := by have := h.1; simpa using this
  have hcs := fun g hg => h.cells (g := g) hg
  rcases h.2 with ⟨rfl, rfl⟩ | ⟨g, cap, cur, rfl, hb, hg, hle, _⟩
  · exact ⟨_, _, rfl, ⟨hl, fun hp => by omega⟩, Nat.le_refl _, fun _ h => by simp at h⟩
  · refine ⟨_, _, rfl, ⟨hl, fun hp => ⟨g, 0, rfl, lt_of_block hg, fun i hi => ?_⟩⟩, hle, fun a ha => by injection ha with ha; subst ha; exact hb⟩
    have := hcs g rfl i (.int k (zs.getD i 0)) (by simp [List.getD, show i < zs.length by omega])
    simpa [Addr.add_lit] using this

theorem rowWhole {w : World} {base g n : Nat} {e : TypeId} {xs : List Value} (h : w.ownsRow base e 1 (.slice (some ⟨g, 0, none⟩) n n) n xs) : w.heap[g]? = some (.cells xs.toArray e (0, 0)) := by
  rcases h.2 with ⟨h', _⟩ | ⟨g', cap', cur, h', _, hg, _, _, hcs, htake⟩
  · simp at h'
  · simp only [Value.slice.injEq, Option.some.injEq, Addr.mk.injEq, and_true, true_and] at h'
    obtain ⟨rfl, rfl⟩ := h'
    rw [hg, ← htake, List.take_of_length_le (by simp; omega)]

theorem rowOf {w : World} {base g n : Nat} {e : TypeId} {xs : List Value} (hb : base ≤ g) (hn : xs.length = n) (hm : n ≤ maxLen) (h : w.heap[g]? = some (.cells xs.toArray e (0, 0))) : w.ownsRow base e 1 (.slice (some ⟨g, 0, none⟩) n n) n xs :=
  ⟨by omega, .inr ⟨g, n, xs.toArray, rfl, hb, h, Nat.le_refl _, hm, by simp; omega, by simp [← hn]⟩⟩

theorem own_keep {w w' : World} {base n : Nat} {e : TypeId} {size : Nat} {v : Value} {xs : List Value} (h : w.ownsRow base e size v n xs) (hb : ∀ g, v.ownBlock = some g → w'.heap[g]? = w.heap[g]?) : w'.ownsRow base e size v n xs := by
  refine ⟨h.1, ?_⟩
  rcases h.2 with hn | ⟨g, cap, cur, rfl, hl, hg, r⟩
  · exact .inl hn
  · exact .inr ⟨g, cap, cur, rfl, hl, (hb g rfl).trans hg, r⟩

theorem ownShape {w : World} {base : Nat} {e : TypeId} {size : Nat} {v : Value} {n : Nat} {xs : List Value} (h : w.ownsRow base e size v n xs) : ∃ ao cap, v = .slice ao n cap := by
  rcases h.2 with ⟨rfl, e⟩ | ⟨g, cap, cur, rfl, _⟩
  · exact ⟨none, 0, by rw [e]⟩
  · exact ⟨_, cap, rfl⟩

end Go.Proofs.Ytfnjbbokbdddpaa
namespace Go.Proofs.Ytfnjbbokbdddpaa
open Go.RowKit Go.ChangeShapes Go.WideShapes Go.Deep Go.Joins

def ArgBytes (w : World) (ao : Option Addr) (len cap : Nat) (zs : List Int) : Prop := Reads .u8 w ao len zs ∧ len ≤ cap ∧ len ≤ maxLen ∧ ∀ z ∈ zs, 0 ≤ z ∧ z ≤ 255

theorem openNums {k : IntKind} {t e : TypeId} {H : Type} {enc : TypeId × Value → H} {W : World} {a : Option Addr} {len cap : Nat} {d : DataW H} {ps : List MemPlace} (ht : Try.prog.underlying t = some (.slice e)) (he : Try.prog.underlying e = some (.int k)) (hc : Try.prog.cellsOf e = 1)
    (h : DataW.Trod enc Try.prog W 0 (fun _ => true) true t (.slice a len cap) d ps) : ∃ zs, Reads k W a len zs ∧ len ≤ cap ∧ len ≤ maxLen ∧ ∀ z ∈ zs, (Lit.int k z).wf = true := by
  obtain ⟨fuel, hf⟩ := h
  rcases open_ints ht he hc hf with ⟨hcs, _⟩ | ⟨x, l, c, zs, hcs, _, hl, hm, hz, _, hcell, hwz⟩
  · simp [Value.cells] at hcs
    obtain ⟨rfl, rfl, rfl⟩ := hcs
    exact ⟨[], ⟨rfl, fun h => by omega⟩, by omega, by simp [maxLen], by simp⟩
  · simp [Value.cells] at hcs
    obtain ⟨rfl, rfl, rfl⟩ := hcs
    simp only [if_true] at hz
    refine ⟨zs.take len, ⟨by simp; omega, fun hp => ?_⟩, by omega, by omega, fun n hn => hwz n (List.mem_of_mem_take hn)⟩
    obtain ⟨b, off, spot⟩ := x
    have hspot : spot = none := by simpa [Addr.add] using World.cell?_spot (hcell 0 (by omega))
    subst hspot
    refine ⟨b, off, rfl, World.block_lt_of_cell? W _ (hcell 0 (by omega)), fun i hi => ?_⟩
    have := hcell i (by omega)
    rw [Addr.add_lit] at this
    rw [this]
    simp [List.getD, hi]

theorem openBytes {H : Type} {enc : TypeId × Value → H} {W : World} {a : Option Addr} {len cap : Nat} {d : DataW H} {ps : List MemPlace}
    (h : DataW.Trod enc Try.prog W 0 (fun _ => true) true 26 (.slice a len cap) d ps) : ∃ zs, ArgBytes W a len cap zs := by
  obtain ⟨zs, h1, h2, h3, h4⟩ := openNums Try.underlying26 Try.underlying5 (by kernel_rfl) h
  exact ⟨zs, h1, h2, h3, fun z hz => bounds_u8 (h4 z hz)⟩

theorem bytes_u8 : Try.prog.bytesOf 5 = 1 := by kernel_rfl

theorem openShape {t e : TypeId} {H : Type} {enc : TypeId × Value → H} {W : World} {a : Option Addr} {len cap : Nat} {d : DataW H} {ps : List MemPlace} (ht : Try.prog.underlying t = some (.slice e))
    (h : DataW.Trod enc Try.prog W 0 (fun _ => true) true t (.slice a len cap) d ps) : len = 0 ∨ ∃ el sp, d = .slice el sp ∧ el.length = len := by
  obtain ⟨fuel, hf⟩ := h
  rcases open_slice ht hf with ⟨hcs, _⟩ | ⟨x, l, c, m, n, D, Pl, hcs, _, _, _, _, hx, _⟩
  · simp [Value.cells] at hcs
    exact .inl hcs.2.1
  · simp [Value.cells] at hcs
    obtain ⟨rfl, rfl, rfl⟩ := hcs
    simp only [Prod.mk.injEq] at hx
    exact .inr ⟨_, _, hx.1, by simp⟩

theorem reachLen {H : Type} {ts : List TypeId} {ds : List (DataW H)} (hsz : (DataW.weightsEach Try.prog ts ds).all (· ≤ reachBytes) = true) {j : Nat} {t e : TypeId} {d : DataW H} {len : Nat} (ht : ts[j]? = some t) (hd : ds[j]? = some d) (hu : Try.prog.underlying t = some (.slice e)) (hb : 1 ≤ Try.prog.bytesOf e)
    (h : len = 0 ∨ ∃ el sp, d = .slice el sp ∧ el.length = len) : len ≤ 140737488351232 := by
  rcases h with rfl | ⟨el, sp, rfl, rfl⟩
  · omega
  · have h1 := sized_slice hsz ht hd hu
    have h2 : el.length + sp.length ≤ (el.length + sp.length) * Try.prog.bytesOf e := Nat.le_mul_of_pos_right _ hb
    have h3 : reachBytes < 2 ^ 47 := reachBytes_lt
    simp only [reachBytes] at h1
    omega

end Go.Proofs.Ytfnjbbokbdddpaa
namespace Go.Proofs.Ytfnjbbokbdddpaa.M2
open Go.RowKit

theorem toList_zeroCells_one (z : Value) (n : Nat) : (Builtin.zeroCells #[z] n).toList = List.replicate n z := by
  apply List.ext_getElem?
  intro j
  by_cases hj : j < n
  · simp [Builtin.zeroCells, hj, Nat.mod_one]
  · simp [Builtin.zeroCells, hj]

theorem zeroCells_one (z : Value) (n : Nat) : Builtin.zeroCells #[z] n = (List.replicate n z).toArray := by
  rw [← toList_zeroCells_one]

theorem run_append_zeros {P : Program} (w : World) (base : Nat) (t ti ty e : TypeId) (k : IntKind) (i : TypeInfo) (z : Value) (ht : P.underlying t = some (.slice e)) (hti : P.underlying ti = some (.int k)) (hi : P.info? e = some i) (hz : i.zero = some z)
    (hsize : i.size = 1) (hby : i.bytes = 8) (hzs : z.cells = #[z]) (hz1 : z.oneCell' = true)
    (v : Value) (n : Nat) (xs : List Value) (hown : w.ownsRow base e 1 v n xs) (m : Nat) (hm : m ≤ 1000000) (hn : n ≤ 1000000) (hbase : base ≤ w.heap.size) :
    ∃ v' w', (Builtin.append_ #[t, ti] ty #[v, .int .i64 (m : Int)]).run P w = .ok v' w' ∧ w'.ownsRow base e 1 v' (n + m) (xs ++ List.replicate m z) ∧ w.grownBy w' v.ownBlock ∧
      (∀ g, v'.ownBlock = some g → v.ownBlock = some g ∨ w.heap.size ≤ g) := by
  have hw : IntKind.i64.wrap (m : Int) = m := by rw [IntKind.wrap_i64]; omega
  have hw0 : IntKind.i64.wrap 0 = 0 := by rw [IntKind.wrap_i64]; omega
  have n1 : ¬ (m : Int) < 0 := by omega
  have n2 : ¬ (281474976710656 < (m : Int) * 8) := by omega
  have h63 : n + m ≤ maxLen := by simp only [maxLen]; omega
  have hlen : (xs ++ List.replicate m z).length = (n + m) * 1 := by rw [List.length_append, hown.1, List.length_replicate]; omega
  have grown : ∀ (old : Nat), old < n + m → ∀ (row : Option Nat),
      (w.drew.alloc (.cells (xs.toArray ++ (List.replicate m z).toArray ++ (List.replicate (grownCap w (n + m) old e - (n + m)) z).toArray) e)).ownsRow base e 1
        (.slice (some ⟨w.heap.size, 0, none⟩) (n + m) (grownCap w (n + m) old e)) (n + m) (xs ++ List.replicate m z) ∧
      w.grownBy (w.drew.alloc (.cells (xs.toArray ++ (List.replicate m z).toArray ++ (List.replicate (grownCap w (n + m) old e - (n + m)) z).toArray) e)) row := by
    intro old ho row
    have hge := grownCap_ge w (n + m) old e
    have hcm : grownCap w (n + m) old e ≤ maxLen := grownCap_le_maxLen w (n + m) old e h63
    refine ⟨⟨hlen, .inr ⟨w.heap.size, _, _, rfl, hbase, heap_alloc_new w.drew _, hge, hcm, ?_, ?_⟩⟩, ⟨rfl, rfl, rfl, by simp, fun k hk _ => Below.heap_alloc w.drew _ k hk⟩⟩
    · have := hown.1
      simp only [Array.size_append, List.size_toArray, List.length_replicate]
      omega
    · simp only [Array.toList_append, List.append_assoc]
      rw [← List.append_assoc, ← hlen]
      exact List.take_left
  rcases hown.2 with ⟨rfl, rfl⟩ | ⟨g, cap, cur, rfl, hbg, hg, hnc, hcm, hcs, htake⟩
  · have hx : xs = [] := List.eq_nil_of_length_eq_zero (by simpa using hown.1)
    subst hx
    by_cases hm0 : m = 0
    · subst hm0
      refine ⟨.slice none 0 0, w, ?_, World.ownsRow_nil w base e 1, ⟨rfl, rfl, rfl, Nat.le_refl _, fun _ _ _ => rfl⟩, by simp [Value.ownBlock]⟩
      simp [Builtin.append_, run_underlying ht, run_underlying hti, sizeOf, typeInfo, hi, asInt, asIntOf, hw0, hby]
    · have h48' : ¬ (281474976710656 < Builtin.nextslicecap m 0 * 8) := by rw [nextslicecap_zero (by omega)]; omega
      have h63' : ¬ (9223372036854775807 < (m : Int)) := by omega
      have hgr := grown 0 (by omega) (Value.ownBlock (.slice none 0 0))
      refine ⟨_, _, ?_, hgr.1, hgr.2, by simp [Value.ownBlock]⟩
      simp [Builtin.append_, run_underlying ht, run_underlying hti, sizeOf, typeInfo, zeroValue, hi, hz, asInt, asIntOf, hw, hsize, hby, hm0, n1, n2, h48', h63', Question.forced, run_firstCells_none, newRow, grownCap, hzs, zeroCells_one]
  · by_cases hroom : n + m ≤ cap
    · have hfit : n + (List.replicate m z).length ≤ cur.size := by rw [List.length_replicate, hcs]; omega
      have hst := run_storeCells_at P g n e (List.replicate m z) 0 cur w hg (by simpa using hfit) (by intro u hu; rw [List.eq_of_mem_replicate hu]; exact hz1)
      simp only [Nat.add_zero] at hst
      refine ⟨.slice (some ⟨g, 0, none⟩) (n + m) cap, w.setRow g (cur.toList.take n ++ List.replicate m z ++ cur.toList.drop (n + m)).toArray, ?_, ⟨hlen, .inr ⟨g, cap, _, rfl, hbg, setRow_heap w g cur _ e _ hg, hroom, hcm, ?_, ?_⟩⟩,
        ⟨rfl, rfl, rfl, by simp, fun k _ hk => setRow_other w g k _ (fun e => hk (by simp [Value.ownBlock, e]))⟩, by simp [Value.ownBlock]⟩
      · by_cases hm0 : m = 0
        · subst hm0
          simp at hst
          simp [Builtin.append_, run_underlying ht, run_underlying hti, sizeOf, typeInfo, hi, asInt, asIntOf, hw0, hsize, hby, hnc, Addr.add_lit, hst]
        · simp at hst
          simp [Builtin.append_, run_underlying ht, run_underlying hti, sizeOf, typeInfo, zeroValue, hi, hz, asInt, asIntOf, hw, hsize, hby, hm0, n1, n2, hroom, hzs, zeroCells_one, Addr.add_lit, hst]
      · simp only [List.size_toArray, List.length_append, List.length_take, List.length_drop, Array.length_toList, List.length_replicate]
        omega
      · have e1 : cur.toList.take n = xs := by simpa using htake
        rw [e1, ← hlen]
        exact List.take_left
    · have h48' : ¬ (281474976710656 < Builtin.nextslicecap (n + m) cap * 8) := by have := growslice_fits (old := cap) (need := n + m) (bytes := 8) (by omega) (by omega); omega
      have h63' : ¬ (9223372036854775807 < ((n : Int) + (m : Int))) := by omega
      have holds : ∀ j u, xs[j]? = some u → w.cell? ((⟨g, 0, none⟩ : Addr).add j) = some u := hown.cells (g := g) rfl
      have hfo := run_firstCells_some (P := P) w.drew 1 n ⟨g, 0, none⟩ n cap xs hown.1 (by simpa using holds)
      have hm0 : m ≠ 0 := by omega
      have hgr := grown cap (by omega) (Value.ownBlock (.slice (some ⟨g, 0, none⟩) n cap))
      refine ⟨_, _, ?_, hgr.1, hgr.2, by simp [Value.ownBlock]⟩
      simp [Builtin.append_, run_underlying ht, run_underlying hti, sizeOf, typeInfo, zeroValue, hi, hz, asInt, asIntOf, hw, hsize, hby, hm0, n1, n2, h48', h63', hroom, Question.forced, hfo, newRow, grownCap, hzs, zeroCells_one]

theorem step_append_zeros {P : Program} {ops : Array Oper} {o : Oper} {a : Act} {w : World} {K : Act → World → Prop} {Q : Exit → Act → World → Prop} {E : Prop}
    (hg : o.guard = none) (s x : Operand) (t ti : TypeId) (hop : o.op = Op.call { callee := Callee.builtin Builtin.append, args := #[s, x], argTypes := #[t, ti] })
    (base : Nat) (e : TypeId) (k : IntKind) (i : TypeInfo) (z : Value) (ht : P.underlying t = some (.slice e)) (hti : P.underlying ti = some (.int k)) (hi : P.info? e = some i) (hz : i.zero = some z)
    (hsize : i.size = 1) (hby : i.bytes = 8) (hzs : z.cells = #[z]) (hz1 : z.oneCell' = true)
    (v : Value) (n : Nat) (xs : List Value) (hs : a.eval s = v) (hown : w.ownsRow base e 1 v n xs) (m : Nat) (hx : a.eval x = .int .i64 (m : Int)) (hm : m ≤ 1000000) (hn : n ≤ 1000000) (hbase : base ≤ w.heap.size)
    (hK : ∀ v' w', w'.ownsRow base e 1 v' (n + m) (xs ++ List.replicate m z) → w.grownBy w' v.ownBlock → (∀ g, v'.ownBlock = some g → v.ownBlock = some g ∨ w.heap.size ≤ g) → K (a.put o.dst v') w') :
    if Region.wanted o (yielded ops a.tmps) = true then Oper.wp P o a w K Q else E := by
  have hw : Region.wanted o (yielded ops a.tmps) = true := by simp [Region.wanted, hg]
  rw [if_pos hw]
  obtain ⟨v', w', hrun, h2, h3, h4⟩ := run_append_zeros (P := P) w base t ti o.type e k i z ht hti hi hz hsize hby hzs hz1 v n xs hown m hm hn hbase
  unfold Oper.wp
  simp [execOp, hop, resolve, invoke, builtin, hs, hx, hrun, Result.andThen]
  exact hK v' w' h2 h3 h4

theorem wpList_append_zeros {P : Program} {w : World} {ops : Array Oper} {rest : List Oper} {o : Oper} {a : Act} {Q : Exit → Act → World → Prop}
    (hg : o.guard = none) (s x : Operand) (t ti : TypeId) (hop : o.op = Op.call { callee := Callee.builtin Builtin.append, args := #[s, x], argTypes := #[t, ti] })
    (base : Nat) (e : TypeId) (k : IntKind) (i : TypeInfo) (z : Value) (ht : P.underlying t = some (.slice e)) (hti : P.underlying ti = some (.int k)) (hi : P.info? e = some i) (hz : i.zero = some z)
    (hsize : i.size = 1) (hby : i.bytes = 8) (hzs : z.cells = #[z]) (hz1 : z.oneCell' = true)
    (v : Value) (n : Nat) (xs : List Value) (hs : a.eval s = v) (hown : w.ownsRow base e 1 v n xs) (m : Nat) (hx : a.eval x = .int .i64 (m : Int)) (hm : m ≤ 1000000) (hn : n ≤ 1000000) (hbase : base ≤ w.heap.size)
    (hK : ∀ v' w', w'.ownsRow base e 1 v' (n + m) (xs ++ List.replicate m z) → w.grownBy w' v.ownBlock → (∀ g, v'.ownBlock = some g → v.ownBlock = some g ∨ w.heap.size ≤ g) → wpList P ops Q rest (a.put o.dst v') w') :
    wpList P ops Q (o :: rest) a w := by
  refine wpList_plain hg fun K hK' => ?_
  obtain ⟨v', w', hrun, h2, h3, h4⟩ := run_append_zeros (P := P) w base t ti o.type e k i z ht hti hi hz hsize hby hzs hz1 v n xs hown m hm hn hbase
  unfold Oper.wp
  simp [execOp, hop, resolve, invoke, builtin, hs, hx, hrun, Result.andThen]
  exact hK' _ _ (hK v' w' h2 h3 h4)

end Go.Proofs.Ytfnjbbokbdddpaa.M2
namespace Go.Proofs.Ytfnjbbokbdddpaa.M2
open Go.RowKit

structure Mem (w : World) (B p : Nat) (v : Value) (size : Int) (zs : List Int) (st : Int) : Prop where
  block : w.heap[p]? = some (.cells #[.int .i64 size, v, .int .i64 st] 84 (0, 0))
  low : B ≤ p
  own : w.ownsRow B 2 1 v zs.length (zs.map (Value.int .i64))
  s0 : 0 ≤ size
  s1 : size ≤ 1000
  room : (zs.length : Int) ≤ size

structure Wrote (p : Nat) (v : Value) (w w' : World) : Prop where
  os : w'.os = w.os
  tape : w'.tape = w.tape
  output : w'.output = w.output
  size : w.heap.size ≤ w'.heap.size
  block : ∀ k, k < w.heap.size → k ≠ p → v.ownBlock ≠ some k → w'.heap[k]? = w.heap[k]?

def Later (v v' : Value) (w : World) : Prop := ∀ g, v'.ownBlock = some g → v.ownBlock = some g ∨ w.heap.size ≤ g

theorem Later.refl (v : Value) (w : World) : Later v v w := fun _ h => .inl h

def Did (B p : Nat) (v : Value) (size : Int) (zs : List Int) (st : Int) (w w' : World) : Prop := ∃ v', Mem w' B p v' size zs st ∧ Wrote p v w w' ∧ Later v v' w

theorem Wrote.refl (p : Nat) (v : Value) (w : World) : Wrote p v w w := ⟨rfl, rfl, rfl, Nat.le_refl _, fun _ _ _ _ => rfl⟩
theorem Wrote.trans {p : Nat} {v : Value} {a b c : World} (h : Wrote p v a b) (k : Wrote p v b c) : Wrote p v a c :=
  ⟨k.os.trans h.os, k.tape.trans h.tape, k.output.trans h.output, Nat.le_trans h.size k.size, fun i hi h1 h2 => (k.block i (Nat.lt_of_lt_of_le hi h.size) h1 h2).trans (h.block i hi h1 h2)⟩
theorem Wrote.alloc {p : Nat} {v : Value} {a w : World} (h : Wrote p v a w) (o : Obj) : Wrote p v a (w.alloc o) :=
  h.trans ⟨rfl, rfl, rfl, by simp, fun k hk _ _ => Below.heap_alloc _ _ _ hk⟩
theorem Wrote.drewN {p : Nat} {v : Value} {a w : World} (h : Wrote p v a w) (n : Nat) : Wrote p v a (w.drewN n) := ⟨h.os, h.tape, h.output, h.size, h.block⟩
theorem Wrote.drew {p : Nat} {v : Value} {a w : World} (h : Wrote p v a w) : Wrote p v a w.drew := ⟨h.os, h.tape, h.output, h.size, h.block⟩
theorem Wrote.setCell {p : Nat} {v : Value} {a w : World} (h : Wrote p v a w) {q : Addr} (hq : a.heap.size ≤ q.block ∨ q.block = p ∨ v.ownBlock = some q.block) (u : Value) : Wrote p v a (w.setCell q u) :=
  ⟨h.os, h.tape, h.output, by simpa [World.setCell] using h.size, fun k hk h1 h2 => by
    rw [Below.heap_setCell _ _ _ _ (by rintro rfl; rcases hq with h' | h' | h'; · omega
                                       · exact h1 h'
                                       · exact h2 h')]
    exact h.block k hk h1 h2⟩
theorem Wrote.grown {p : Nat} {v : Value} {a w w' : World} (h : Wrote p v a w) (hg : w.grownBy w' v.ownBlock) : Wrote p v a w' :=
  h.trans ⟨hg.os, hg.tape, hg.output, hg.size, fun k hk _ h2 => hg.block k hk (fun e => h2 e.symm)⟩

section
variable {w : World} {B p : Nat} {v : Value} {size : Int} {zs : List Int} {st : Int}

theorem Mem.lt (h : Mem w B p v size zs st) : p < w.heap.size := lt_of_block h.block
theorem Mem.base (h : Mem w B p v size zs st) : B ≤ w.heap.size := Nat.le_of_lt (Nat.lt_of_le_of_lt h.low h.lt)
theorem Mem.c0 (h : Mem w B p v size zs st) : w.cell? ⟨p, 0, none⟩ = some (.int .i64 size) := by simp [World.cell?, h.block]
theorem Mem.c1 (h : Mem w B p v size zs st) : w.cell? ⟨p, 1, none⟩ = some v := by simp [World.cell?, h.block]
theorem Mem.c2 (h : Mem w B p v size zs st) : w.cell? ⟨p, 2, none⟩ = some (.int .i64 st) := by simp [World.cell?, h.block]
theorem Mem.f (h : Mem w B p v size zs st) (j : Nat) : w.frozen? ⟨p, j, none⟩ = false := by simp [World.frozen?, h.block]

theorem Mem.ne (h : Mem w B p v size zs st) : v.ownBlock ≠ some p := by
  intro e
  rcases h.own.2 with ⟨rfl, _⟩ | ⟨g, cap, cur, rfl, _, hg, _⟩
  · simp [Value.ownBlock] at e
  · simp only [Value.ownBlock, Option.some.injEq] at e
    subst e
    have hb := h.block
    rw [hg] at hb
    simp at hb

theorem Mem.shape (h : Mem w B p v size zs st) : ∃ ao cap, v = .slice ao zs.length cap := by
  rcases h.own.2 with ⟨rfl, e⟩ | ⟨g, cap, cur, rfl, _⟩
  · exact ⟨none, 0, by rw [e]⟩
  · exact ⟨_, cap, rfl⟩

theorem Mem.row (h : Mem w B p v size zs st) (hz : 0 < zs.length) : ∃ g cap, v = .slice (some ⟨g, 0, none⟩) zs.length cap ∧ g ≠ p ∧ B ≤ g ∧ g < w.heap.size := by
  have hn := h.ne
  rcases h.own.2 with ⟨rfl, e⟩ | ⟨g, cap, cur, rfl, hb, hg, _⟩
  · omega
  · exact ⟨g, cap, rfl, fun e => hn (by simp [Value.ownBlock, e]), hb, lt_of_block hg⟩

theorem Mem.keep {w' : World} (h : Mem w B p v size zs st) (hp : w'.heap[p]? = w.heap[p]?) (hv : ∀ g, v.ownBlock = some g → w'.heap[g]? = w.heap[g]?) : Mem w' B p v size zs st := by
  refine ⟨hp.trans h.block, h.low, ⟨h.own.1, ?_⟩, h.s0, h.s1, h.room⟩
  rcases h.own.2 with hn | ⟨g, cap, cur, rfl, hb, hg, r⟩
  · exact .inl hn
  · exact .inr ⟨g, cap, cur, rfl, hb, (hv g rfl).trans hg, r⟩

theorem Mem.rowLt (h : Mem w B p v size zs st) {g : Nat} (hg : v.ownBlock = some g) : B ≤ g ∧ g < w.heap.size := h.own.lt g hg

theorem Mem.alloc (h : Mem w B p v size zs st) (o : Obj) : Mem (w.alloc o) B p v size zs st :=
  h.keep (Below.heap_alloc _ _ _ h.lt) (fun _ hg => Below.heap_alloc _ _ _ (h.rowLt hg).2)

theorem Mem.setOther (h : Mem w B p v size zs st) {q : Addr} (h1 : q.block ≠ p) (h2 : v.ownBlock ≠ some q.block) (u : Value) : Mem (w.setCell q u) B p v size zs st :=
  h.keep (Below.heap_setCell _ _ _ _ (fun e => h1 e.symm)) (fun _ hg => Below.heap_setCell _ _ _ _ (fun e => h2 (by rw [hg, e])))

theorem Mem.drewN (h : Mem w B p v size zs st) (n : Nat) : Mem (w.drewN n) B p v size zs st := ⟨h.block, h.low, h.own, h.s0, h.s1, h.room⟩
theorem Mem.drew (h : Mem w B p v size zs st) : Mem w.drew B p v size zs st := ⟨h.block, h.low, h.own, h.s0, h.s1, h.room⟩

theorem Mem.setSteps (h : Mem w B p v size zs st) (x : Int) : Mem (w.setCell ⟨p, 2, none⟩ (.int .i64 x)) B p v size zs x := by
  refine ⟨?_, h.low, ownsRow_setCell_other h.own h.ne _, h.s0, h.s1, h.room⟩
  rw [heap_setCell_same w p 2 _ _ _ h.block]
  rfl

theorem Mem.cell (h : Mem w B p v size zs st) {g cap : Nat} (hv : v = .slice (some ⟨g, 0, none⟩) zs.length cap) {a : Int} (h0 : 0 ≤ a) (h1 : a < zs.length) :
    w.cell? ⟨g, a.toNat, none⟩ = some (.int .i64 (zs.getD a.toNat 0)) ∧ w.frozen? ⟨g, a.toNat, none⟩ = false := by
  subst hv
  have hl : a.toNat < zs.length := by omega
  refine ⟨?_, h.own.frozenAt _⟩
  rw [h.own.cellAt a.toNat (by omega)]
  simp [List.getD, hl]

theorem Mem.setAt (h : Mem w B p v size zs st) {g cap : Nat} (hv : v = .slice (some ⟨g, 0, none⟩) zs.length cap) (j : Nat) (x : Int) :
    Mem (w.setCell ⟨g, j, none⟩ (.int .i64 x)) B p v size (zs.set j x) st := by
  have hne := h.ne
  subst hv
  have hs := (h.own.stored j (.int .i64 x)).1
  refine ⟨?_, h.low, ?_, h.s0, h.s1, by simpa using h.room⟩
  · rw [Below.heap_setCell _ _ _ _ (by simpa [Value.ownBlock, eq_comm] using hne)]; exact h.block
  · simpa [List.map_set] using hs

end

theorem Wrote.below {p : Nat} {v : Value} {w w' : World} {B : Nat} (h : Wrote p v w w') (hB : B ≤ w.heap.size) (hp : B ≤ p) (hv : ∀ g, v.ownBlock = some g → B ≤ g) : Below B w w' :=
  ⟨h.os, h.tape, h.output, h.size, fun k hk => h.block k (by omega) (by omega) (fun e => by have := hv k e; omega)⟩

def Mem1 (w : World) (B p : Nat) (size : Int) (zs : List Int) (st : Int) : Prop := ∃ v, Mem w B p v size zs st

theorem Mem.fresh {w w' : World} {B p : Nat} {v : Value} {size : Int} {zs : List Int} {st : Int} (m : Mem w B p v size zs st) (b : Below w.heap.size w w') : Mem w' B p v size zs st :=
  m.keep (b.block _ m.lt) (fun _ hg => b.block _ (m.rowLt hg).2)

end Go.Proofs.Ytfnjbbokbdddpaa.M2
namespace Go.Proofs.Ytfnjbbokbdddpaa.M2
open Go.RowKit

section
variable {w : World} {B p : Nat} {v : Value} {size : Int} {zs : List Int} {st : Int}

theorem topAny (h : Mem w B p v size zs st) :
    Calls Try.prog 59 #[.pointer (some ⟨p, 0, none⟩)] w fun e w' => e = .returned (.int .i64 zs.length) ∧ w = w' := by
  have c1 := h.c1
  obtain ⟨ao, cap, rfl⟩ := h.shape
  have H := Lib.hid h
  clear h
  go_enter Try.func59, Try.ntmps59
  go_wp2
  go_ret
  exact ⟨rfl, rfl⟩

theorem roomAny (h : Mem w B p v size zs st) :
    Calls Try.prog 53 #[.pointer (some ⟨p, 0, none⟩)] w fun e w' => e = .returned (.int .i64 (size - zs.length)) ∧ ∃ n, w' = w.drewN n := by
  have c0 := h.c0
  have c1 := h.c1
  obtain ⟨ao, cap, rfl⟩ := h.shape
  have s0 := h.s0
  have s1 := h.s1
  have r := h.room
  have t : IntKind.i64.wrap (size - zs.length) = size - zs.length := IntWalk.i64_in _ (by omega)
  have H := Lib.hid h
  clear h
  go_enter Try.func53, Try.ntmps53
  go_wp2
  go_quiet (fail)
  go_wp2
  go_ret
  exact ⟨rfl, _, rfl⟩

theorem cellIn (h : Mem w B p v size zs st) {g cap : Nat} (hv : v = .slice (some ⟨g, 0, none⟩) zs.length cap) (a : Int) (h0 : 0 ≤ a) (h1 : a < zs.length) :
    Calls Try.prog 43 #[.pointer (some ⟨p, 0, none⟩), .int .i64 a] w fun e w' => e = .returned (.pointer (some ⟨g, a.toNat, none⟩)) ∧ w = w' := by
  have T := topAny h
  have c1 := h.c1
  subst hv
  have H := Lib.hid h
  clear h
  have h2 : ¬ a < 0 := by omega
  go_enter Try.func43, Try.ntmps43
  go_wp2_with (go_at_call 59; refine T.mono ?_; rintro e w' ⟨rfl, rfl⟩)
  go_ret
  exact ⟨by simp, rfl⟩

theorem cellOut (h : Mem w B p v size zs st) (a : Int) (h0 : a < 0 ∨ zs.length ≤ a) :
    Calls Try.prog 43 #[.pointer (some ⟨p, 0, none⟩), .int .i64 a] w fun e w' => e = .returned (.pointer none) ∧ w = w' := by
  have T := topAny h
  clear h
  by_cases h1 : a < 0
  · clear h0
    go_enter Try.func43, Try.ntmps43
    go_wp2_with (go_at_call 59; refine T.mono ?_; rintro e w' ⟨rfl, rfl⟩)
    go_ret
    exact ⟨rfl, rfl⟩
  · have h2 : (zs.length : Int) ≤ a := by omega
    clear h0
    go_enter Try.func43, Try.ntmps43
    go_wp2_with (go_at_call 59; refine T.mono ?_; rintro e w' ⟨rfl, rfl⟩)
    go_ret
    exact ⟨rfl, rfl⟩

theorem countOk (hc : w.cell? ⟨p, 2, none⟩ = some (.int .i64 st)) (hf : w.frozen? ⟨p, 2, none⟩ = false) (h0 : 0 ≤ st) (h1 : st < 1000000) :
    Calls Try.prog 42 #[.pointer (some ⟨p, 0, none⟩), .int .u16 0] w fun e w' => e = .returned (.tuple #[]) ∧ w' = w.setCell ⟨p, 2, none⟩ (.int .i64 (st + 1)) := by
  go_enter Try.func42, Try.ntmps42
  go_wp2
  go_end0
  exact ⟨rfl, rfl⟩

theorem countErr (p : Nat) (w : World) (x : Int) (h0 : 0 < x) :
    Calls Try.prog 42 #[.pointer (some ⟨p, 0, none⟩), .int .u16 x] w fun e w' => e = .returned (.tuple #[]) ∧ w' = w := by
  have h1 : ¬ x = 0 := by omega
  go_enter Try.func42, Try.ntmps42
  go_wp2
  go_end0
  exact ⟨rfl, rfl⟩

theorem okAlloc {x y : Addr} (u : FrameMode) (hx : w.cell? x = some (.pointer (some ⟨p, 0, none⟩))) (hy : w.cell? y = some (.int .u16 0)) (hc : w.cell? ⟨p, 2, none⟩ = some (.int .i64 st)) (hf : w.frozen? ⟨p, 2, none⟩ = false) (h0 : 0 ≤ st) (h1 : st < 1000000) :
    CallsD Try.prog 52 #[.pointer (some x), .pointer (some y)] u w fun e u' w' => u' = u ∧ (e = .returned (.tuple #[]) ∧ w' = w.setCell ⟨p, 2, none⟩ (.int .i64 (st + 1))) := by
  have T := countOk (w := w) hc hf h0 h1
  go_enter_d Try.func52, Try.ntmps52
  go_wp2_with (go_at_call 42; refine T.mono ?_; rintro e w' ⟨rfl, rfl⟩)
  go_end0
  exact ⟨rfl, rfl⟩

theorem okLoad {x y : Addr} (u : FrameMode) (hx : w.cell? x = some (.pointer (some ⟨p, 0, none⟩))) (hy : w.cell? y = some (.int .u16 0)) (hc : w.cell? ⟨p, 2, none⟩ = some (.int .i64 st)) (hf : w.frozen? ⟨p, 2, none⟩ = false) (h0 : 0 ≤ st) (h1 : st < 1000000) :
    CallsD Try.prog 46 #[.pointer (some x), .pointer (some y)] u w fun e u' w' => u' = u ∧ (e = .returned (.tuple #[]) ∧ w' = w.setCell ⟨p, 2, none⟩ (.int .i64 (st + 1))) := by
  have T := countOk (w := w) hc hf h0 h1
  go_enter_d Try.func46, Try.ntmps46
  go_wp2_with (go_at_call 42; refine T.mono ?_; rintro e w' ⟨rfl, rfl⟩)
  go_end0
  exact ⟨rfl, rfl⟩

theorem errLoad {x y : Addr} (u : FrameMode) (z : Int) (h0 : 0 < z) (hx : w.cell? x = some (.pointer (some ⟨p, 0, none⟩))) (hy : w.cell? y = some (.int .u16 z)) :
    CallsD Try.prog 46 #[.pointer (some x), .pointer (some y)] u w fun e u' w' => u' = u ∧ (e = .returned (.tuple #[]) ∧ w' = w) := by
  have T := countErr p w z h0
  go_enter_d Try.func46, Try.ntmps46
  go_wp2_with (go_at_call 42; refine T.mono ?_; rintro e w' ⟨rfl, rfl⟩)
  go_end0
  exact ⟨rfl, rfl⟩

theorem okStore {x y : Addr} (u : FrameMode) (hx : w.cell? x = some (.pointer (some ⟨p, 0, none⟩))) (hy : w.cell? y = some (.int .u16 0)) (hc : w.cell? ⟨p, 2, none⟩ = some (.int .i64 st)) (hf : w.frozen? ⟨p, 2, none⟩ = false) (h0 : 0 ≤ st) (h1 : st < 1000000) :
    CallsD Try.prog 54 #[.pointer (some x), .pointer (some y)] u w fun e u' w' => u' = u ∧ (e = .returned (.tuple #[]) ∧ w' = w.setCell ⟨p, 2, none⟩ (.int .i64 (st + 1))) := by
  have T := countOk (w := w) hc hf h0 h1
  go_enter_d Try.func54, Try.ntmps54
  go_wp2_with (go_at_call 42; refine T.mono ?_; rintro e w' ⟨rfl, rfl⟩)
  go_end0
  exact ⟨rfl, rfl⟩

theorem errStore {x y : Addr} (u : FrameMode) (z : Int) (h0 : 0 < z) (hx : w.cell? x = some (.pointer (some ⟨p, 0, none⟩))) (hy : w.cell? y = some (.int .u16 z)) :
    CallsD Try.prog 54 #[.pointer (some x), .pointer (some y)] u w fun e u' w' => u' = u ∧ (e = .returned (.tuple #[]) ∧ w' = w) := by
  have T := countErr p w z h0
  go_enter_d Try.func54, Try.ntmps54
  go_wp2_with (go_at_call 42; refine T.mono ?_; rintro e w' ⟨rfl, rfl⟩)
  go_end0
  exact ⟨rfl, rfl⟩

theorem okSwap {x y : Addr} (u : FrameMode) (hx : w.cell? x = some (.pointer (some ⟨p, 0, none⟩))) (hy : w.cell? y = some (.int .u16 0)) (hc : w.cell? ⟨p, 2, none⟩ = some (.int .i64 st)) (hf : w.frozen? ⟨p, 2, none⟩ = false) (h0 : 0 ≤ st) (h1 : st < 1000000) :
    CallsD Try.prog 41 #[.pointer (some x), .pointer (some y)] u w fun e u' w' => u' = u ∧ (e = .returned (.tuple #[]) ∧ w' = w.setCell ⟨p, 2, none⟩ (.int .i64 (st + 1))) := by
  have T := countOk (w := w) hc hf h0 h1
  go_enter_d Try.func41, Try.ntmps41
  go_wp2_with (go_at_call 42; refine T.mono ?_; rintro e w' ⟨rfl, rfl⟩)
  go_end0
  exact ⟨rfl, rfl⟩

theorem errSwap {x y : Addr} (u : FrameMode) (z : Int) (h0 : 0 < z) (hx : w.cell? x = some (.pointer (some ⟨p, 0, none⟩))) (hy : w.cell? y = some (.int .u16 z)) :
    CallsD Try.prog 41 #[.pointer (some x), .pointer (some y)] u w fun e u' w' => u' = u ∧ (e = .returned (.tuple #[]) ∧ w' = w) := by
  have T := countErr p w z h0
  go_enter_d Try.func41, Try.ntmps41
  go_wp2_with (go_at_call 42; refine T.mono ?_; rintro e w' ⟨rfl, rfl⟩)
  go_end0
  exact ⟨rfl, rfl⟩

end

end Go.Proofs.Ytfnjbbokbdddpaa.M2
namespace Go.Proofs.Ytfnjbbokbdddpaa.M2
open Go.RowKit

theorem boxes (w : World) (m : Value) (t u : TypeId) : ∀ W, (w.alloc (.cells #[m] t)).alloc (.cells #[.int .u16 0] u) = W →
    W.cell? ⟨w.heap.size, 0, none⟩ = some m ∧ W.cell? ⟨w.heap.size + 1, 0, none⟩ = some (.int .u16 0) ∧ W.frozen? ⟨w.heap.size + 1, 0, none⟩ = false ∧ (∀ p v, Wrote p v w W) := by
  rintro W rfl
  refine ⟨?_, ?_, ?_, fun p v => ((Wrote.refl p v w).alloc _).alloc _⟩
  all_goals go_simp

section
variable {w : World} {B p : Nat} {v : Value} {size : Int} {zs : List Int} {st : Int}

set_option maxRecDepth 100000 in
set_option maxHeartbeats 1600000 in
theorem loadIn (h : Mem w B p v size zs st) (a : Int) (h0 : 0 ≤ a) (h1 : a < zs.length) (k0 : 0 ≤ st) (k1 : st < 1000000) :
    Calls Try.prog 27 #[.pointer (some ⟨p, 0, none⟩), .int .i64 a] w fun e w' => e = .returned (.tuple #[.int .i64 (zs.getD a.toNat 0), .int .u16 0]) ∧ Did B p v size zs (st + 1) w w' := by
  obtain ⟨g, cap, hv, hgp, hBg, hgl⟩ := h.row (by omega)
  have hpl := h.lt
  obtain ⟨y, hy⟩ : ∃ y, zs.getD a.toNat 0 = y := ⟨_, rfl⟩
  rw [hy]
  have hmf : ∀ (fn : Fn) (first cap : Array Value) (w : World), (Instr.makeFunc fn first cap).run Try.prog w = .ok (.func fn first cap) w := fun _ _ _ _ => rfl
  go_enter_defers Try.func27, Try.ntmps27
  go_wp2_with fail
  generalize hW : (w.alloc (.cells #[.pointer (some ⟨p, 0, none⟩)] 37)).alloc (.cells #[.int .u16 0] 56) = W
  obtain ⟨b0, b1, f1, wr⟩ := boxes w _ _ _ W hW
  have hM : Mem W B p v size zs st := by subst hW; exact (h.alloc _).alloc _
  clear hW h
  have C := cellIn hM hv a h0 h1
  obtain ⟨cc, cf⟩ := hM.cell hv h0 h1
  rw [hy] at cc
  have HY := Lib.hid hy
  have HM := Lib.hid hM
  have HV := Lib.hid hv
  have HWR := Lib.hid wr
  clear hM hv wr hy
  refine C.mono ?_
  rintro e w' ⟨rfl, rfl⟩
  clear C
  go_wp2
  have D := HM.out.setOther (q := ⟨w.heap.size + 1, 0, none⟩) (by simp; omega) (by rw [HV.out]; simp [Value.ownBlock]; omega) (.int .u16 0)
  have d0 := cellOther (W := W) (a := ⟨w.heap.size + 1, 0, none⟩) (b := ⟨w.heap.size, 0, none⟩) (.int .u16 0) (by simp) b0
  have d1 := cellSame (W := W) (a := ⟨w.heap.size + 1, 0, none⟩) (.int .u16 0) b1
  have d2 := cellOther (a := ⟨p, 2, none⟩) (.int .i64 (st + 1)) (by simp; omega) d1
  refine leaves_cons (f := 46) (args := #[.pointer (some ⟨w.heap.size, 0, none⟩), .pointer (some ⟨w.heap.size + 1, 0, none⟩)]) (by simp) (by simp [go_sem]) ?_
  refine (okLoad (p := p) (st := st) .returning d0 d1 D.c2 (D.f 2) k0 k1).mono ?_
  rintro e u' w'' ⟨rfl, rfl, rfl⟩
  refine ⟨_, by simp [results, Try.results27, go_sem, d2], rfl, _, D.setSteps (st + 1), ?_, Later.refl _ _⟩
  exact ((HWR.out p v).setCell (.inl (by simp)) _).setCell (.inr (.inl rfl)) _

set_option maxRecDepth 100000 in
set_option maxHeartbeats 1600000 in
theorem loadOut (h : Mem w B p v size zs st) (a : Int) (h0 : a < 0 ∨ zs.length ≤ a) :
    Calls Try.prog 27 #[.pointer (some ⟨p, 0, none⟩), .int .i64 a] w fun e w' => e = .returned (.tuple #[.int .i64 0, .int .u16 10]) ∧ Did B p v size zs st w w' := by
  have hpl := h.lt
  have hrl : ∀ g, v.ownBlock = some g → g < w.heap.size := fun g hg => (h.rowLt hg).2
  have hmf : ∀ (fn : Fn) (first cap : Array Value) (w : World), (Instr.makeFunc fn first cap).run Try.prog w = .ok (.func fn first cap) w := fun _ _ _ _ => rfl
  go_enter_defers Try.func27, Try.ntmps27
  go_wp2_with fail
  generalize hW : (w.alloc (.cells #[.pointer (some ⟨p, 0, none⟩)] 37)).alloc (.cells #[.int .u16 0] 56) = W
  obtain ⟨b0, b1, f1, wr⟩ := boxes w _ _ _ W hW
  have hM : Mem W B p v size zs st := by subst hW; exact (h.alloc _).alloc _
  clear hW h
  have C := cellOut hM a h0
  have HM := Lib.hid hM
  have HR := Lib.hid hrl
  have HWR := Lib.hid wr
  clear hM wr hrl h0
  refine C.mono ?_
  rintro e w' ⟨rfl, rfl⟩
  clear C
  go_wp2
  have D := HM.out.setOther (q := ⟨w.heap.size + 1, 0, none⟩) (by simp; omega) (fun e => by have := HR.out _ e; simp at this; omega) (.int .u16 10)
  have d0 := cellOther (a := ⟨w.heap.size + 1, 0, none⟩) (b := ⟨w.heap.size, 0, none⟩) (.int .u16 10) (by simp) b0
  have d1 := cellSame (a := ⟨w.heap.size + 1, 0, none⟩) (.int .u16 10) b1
  refine leaves_cons (f := 46) (args := #[.pointer (some ⟨w.heap.size, 0, none⟩), .pointer (some ⟨w.heap.size + 1, 0, none⟩)]) (by simp) (by simp [go_sem]) ?_
  refine (errLoad (p := p) .returning 10 (by omega) d0 d1).mono ?_
  rintro e u' w'' ⟨rfl, rfl, rfl⟩
  refine ⟨_, by simp [results, Try.results27, go_sem, d1], rfl, _, D, ?_, Later.refl _ _⟩
  exact (HWR.out p v).setCell (.inl (by simp)) _

set_option maxRecDepth 100000 in
set_option maxHeartbeats 1600000 in
theorem storeIn (h : Mem w B p v size zs st) (a x : Int) (h0 : 0 ≤ a) (h1 : a < zs.length) (k0 : 0 ≤ st) (k1 : st < 1000000) :
    Calls Try.prog 36 #[.pointer (some ⟨p, 0, none⟩), .int .i64 a, .int .i64 x] w fun e w' => e = .returned (.int .u16 0) ∧ Did B p v size (zs.set a.toNat x) (st + 1) w w' := by
  obtain ⟨g, cap, hv, hgp, hBg, hgl⟩ := h.row (by omega)
  have hpl := h.lt
  obtain ⟨y, hy⟩ : ∃ y, zs.getD a.toNat 0 = y := ⟨_, rfl⟩
  skip
  have hmf : ∀ (fn : Fn) (first cap : Array Value) (w : World), (Instr.makeFunc fn first cap).run Try.prog w = .ok (.func fn first cap) w := fun _ _ _ _ => rfl
  go_enter_defers Try.func36, Try.ntmps36
  go_wp2_with fail
  generalize hW : (w.alloc (.cells #[.pointer (some ⟨p, 0, none⟩)] 37)).alloc (.cells #[.int .u16 0] 56) = W
  obtain ⟨b0, b1, f1, wr⟩ := boxes w _ _ _ W hW
  have hM : Mem W B p v size zs st := by subst hW; exact (h.alloc _).alloc _
  clear hW h
  have C := cellIn hM hv a h0 h1
  obtain ⟨cc, cf⟩ := hM.cell hv h0 h1
  rw [hy] at cc
  have b1' := cellOther (W := W) (a := ⟨g, a.toNat, none⟩) (b := ⟨w.heap.size + 1, 0, none⟩) (.int .i64 x) (by simp; omega) b1
  have HY := Lib.hid hy
  have HM := Lib.hid hM
  have HV := Lib.hid hv
  have HWR := Lib.hid wr
  clear hM hv wr hy
  refine C.mono ?_
  rintro e w' ⟨rfl, rfl⟩
  clear C
  go_wp2
  have D := (HM.out.setAt HV.out a.toNat x).setOther (q := ⟨w.heap.size + 1, 0, none⟩) (by simp; omega) (by rw [HV.out]; simp [Value.ownBlock]; omega) (.int .u16 0)
  have d0 := cellOther (W := W.setCell ⟨g, a.toNat, none⟩ (.int .i64 x)) (a := ⟨w.heap.size + 1, 0, none⟩) (b := ⟨w.heap.size, 0, none⟩) (.int .u16 0) (by simp) (cellOther _ (by simp; omega) b0)
  have d1 := cellSame (W := W.setCell ⟨g, a.toNat, none⟩ (.int .i64 x)) (a := ⟨w.heap.size + 1, 0, none⟩) (.int .u16 0) (cellOther _ (by simp; omega) b1)
  have d2 := cellOther (a := ⟨p, 2, none⟩) (.int .i64 (st + 1)) (by simp; omega) d1
  refine leaves_cons (f := 54) (args := #[.pointer (some ⟨w.heap.size, 0, none⟩), .pointer (some ⟨w.heap.size + 1, 0, none⟩)]) (by simp) (by simp [go_sem]) ?_
  refine (okStore (p := p) (st := st) .returning d0 d1 D.c2 (D.f 2) k0 k1).mono ?_
  rintro e u' w'' ⟨rfl, rfl, rfl⟩
  refine ⟨_, by simp [results, Try.results36, go_sem, d2], rfl, _, D.setSteps (st + 1), ?_, Later.refl _ _⟩
  exact (((HWR.out p v).setCell (.inr (.inr (by rw [HV.out]; rfl))) _).setCell (.inl (by simp)) _).setCell (.inr (.inl rfl)) _

set_option maxRecDepth 100000 in
set_option maxHeartbeats 1600000 in
theorem storeOut (h : Mem w B p v size zs st) (a x : Int) (h0 : a < 0 ∨ zs.length ≤ a) :
    Calls Try.prog 36 #[.pointer (some ⟨p, 0, none⟩), .int .i64 a, .int .i64 x] w fun e w' => e = .returned (.int .u16 10) ∧ Did B p v size zs st w w' := by
  have hpl := h.lt
  have hrl : ∀ g, v.ownBlock = some g → g < w.heap.size := fun g hg => (h.rowLt hg).2
  have hmf : ∀ (fn : Fn) (first cap : Array Value) (w : World), (Instr.makeFunc fn first cap).run Try.prog w = .ok (.func fn first cap) w := fun _ _ _ _ => rfl
  go_enter_defers Try.func36, Try.ntmps36
  go_wp2_with fail
  generalize hW : (w.alloc (.cells #[.pointer (some ⟨p, 0, none⟩)] 37)).alloc (.cells #[.int .u16 0] 56) = W
  obtain ⟨b0, b1, f1, wr⟩ := boxes w _ _ _ W hW
  have hM : Mem W B p v size zs st := by subst hW; exact (h.alloc _).alloc _
  clear hW h
  have C := cellOut hM a h0
  have HM := Lib.hid hM
  have HR := Lib.hid hrl
  have HWR := Lib.hid wr
  clear hM wr hrl h0
  refine C.mono ?_
  rintro e w' ⟨rfl, rfl⟩
  clear C
  go_wp2
  have D := HM.out.setOther (q := ⟨w.heap.size + 1, 0, none⟩) (by simp; omega) (fun e => by have := HR.out _ e; simp at this; omega) (.int .u16 10)
  have d0 := cellOther (a := ⟨w.heap.size + 1, 0, none⟩) (b := ⟨w.heap.size, 0, none⟩) (.int .u16 10) (by simp) b0
  have d1 := cellSame (a := ⟨w.heap.size + 1, 0, none⟩) (.int .u16 10) b1
  refine leaves_cons (f := 54) (args := #[.pointer (some ⟨w.heap.size, 0, none⟩), .pointer (some ⟨w.heap.size + 1, 0, none⟩)]) (by simp) (by simp [go_sem]) ?_
  refine (errStore (p := p) .returning 10 (by omega) d0 d1).mono ?_
  rintro e u' w'' ⟨rfl, rfl, rfl⟩
  refine ⟨_, by simp [results, Try.results36, go_sem, d1], rfl, _, D, ?_, Later.refl _ _⟩
  exact (HWR.out p v).setCell (.inl (by simp)) _

set_option maxRecDepth 100000 in
set_option maxHeartbeats 1600000 in
theorem swapIn (h : Mem w B p v size zs st) (a old x : Int) (h0 : 0 ≤ a) (h1 : a < zs.length) (ho : zs.getD a.toNat 0 = old) (k0 : 0 ≤ st) (k1 : st < 1000000) :
    Calls Try.prog 25 #[.pointer (some ⟨p, 0, none⟩), .int .i64 a, .int .i64 old, .int .i64 x] w fun e w' => e = .returned (.tuple #[.bool true, .int .u16 0]) ∧ Did B p v size (zs.set a.toNat x) (st + 1) w w' := by
  obtain ⟨g, cap, hv, hgp, hBg, hgl⟩ := h.row (by omega)
  have hpl := h.lt
  obtain ⟨y, hy⟩ : ∃ y, zs.getD a.toNat 0 = y := ⟨_, rfl⟩
  skip
  have hmf : ∀ (fn : Fn) (first cap : Array Value) (w : World), (Instr.makeFunc fn first cap).run Try.prog w = .ok (.func fn first cap) w := fun _ _ _ _ => rfl
  go_enter_defers Try.func25, Try.ntmps25
  go_wp2_with fail
  generalize hW : (w.alloc (.cells #[.pointer (some ⟨p, 0, none⟩)] 37)).alloc (.cells #[.int .u16 0] 56) = W
  obtain ⟨b0, b1, f1, wr⟩ := boxes w _ _ _ W hW
  have hM : Mem W B p v size zs st := by subst hW; exact (h.alloc _).alloc _
  clear hW h
  have C := cellIn hM hv a h0 h1
  obtain ⟨cc, cf⟩ := hM.cell hv h0 h1
  rw [hy] at cc
  obtain rfl : y = old := hy.symm.trans ho
  have b1' := cellOther (W := W) (a := ⟨g, a.toNat, none⟩) (b := ⟨w.heap.size + 1, 0, none⟩) (.int .i64 x) (by simp; omega) b1
  have HY := Lib.hid hy
  have HM := Lib.hid hM
  have HV := Lib.hid hv
  have HWR := Lib.hid wr
  clear hM hv wr hy
  refine C.mono ?_
  rintro e w' ⟨rfl, rfl⟩
  clear C
  go_wp2
  have D := (HM.out.setAt HV.out a.toNat x).setOther (q := ⟨w.heap.size + 1, 0, none⟩) (by simp; omega) (by rw [HV.out]; simp [Value.ownBlock]; omega) (.int .u16 0)
  have d0 := cellOther (W := W.setCell ⟨g, a.toNat, none⟩ (.int .i64 x)) (a := ⟨w.heap.size + 1, 0, none⟩) (b := ⟨w.heap.size, 0, none⟩) (.int .u16 0) (by simp) (cellOther _ (by simp; omega) b0)
  have d1 := cellSame (W := W.setCell ⟨g, a.toNat, none⟩ (.int .i64 x)) (a := ⟨w.heap.size + 1, 0, none⟩) (.int .u16 0) (cellOther _ (by simp; omega) b1)
  have d2 := cellOther (a := ⟨p, 2, none⟩) (.int .i64 (st + 1)) (by simp; omega) d1
  refine leaves_cons (f := 41) (args := #[.pointer (some ⟨w.heap.size, 0, none⟩), .pointer (some ⟨w.heap.size + 1, 0, none⟩)]) (by simp) (by simp [go_sem]) ?_
  refine (okSwap (p := p) (st := st) .returning d0 d1 D.c2 (D.f 2) k0 k1).mono ?_
  rintro e u' w'' ⟨rfl, rfl, rfl⟩
  refine ⟨_, by simp [results, Try.results25, go_sem, d2], rfl, _, D.setSteps (st + 1), ?_, Later.refl _ _⟩
  exact (((HWR.out p v).setCell (.inr (.inr (by rw [HV.out]; rfl))) _).setCell (.inl (by simp)) _).setCell (.inr (.inl rfl)) _

set_option maxRecDepth 100000 in
set_option maxHeartbeats 1600000 in
theorem swapNo (h : Mem w B p v size zs st) (a old x : Int) (h0 : 0 ≤ a) (h1 : a < zs.length) (ho : zs.getD a.toNat 0 ≠ old) (k0 : 0 ≤ st) (k1 : st < 1000000) :
    Calls Try.prog 25 #[.pointer (some ⟨p, 0, none⟩), .int .i64 a, .int .i64 old, .int .i64 x] w fun e w' => e = .returned (.tuple #[.bool false, .int .u16 0]) ∧ Did B p v size zs (st + 1) w w' := by
  obtain ⟨g, cap, hv, hgp, hBg, hgl⟩ := h.row (by omega)
  have hpl := h.lt
  obtain ⟨y, hy⟩ : ∃ y, zs.getD a.toNat 0 = y := ⟨_, rfl⟩
  skip
  have hmf : ∀ (fn : Fn) (first cap : Array Value) (w : World), (Instr.makeFunc fn first cap).run Try.prog w = .ok (.func fn first cap) w := fun _ _ _ _ => rfl
  go_enter_defers Try.func25, Try.ntmps25
  go_wp2_with fail
  generalize hW : (w.alloc (.cells #[.pointer (some ⟨p, 0, none⟩)] 37)).alloc (.cells #[.int .u16 0] 56) = W
  obtain ⟨b0, b1, f1, wr⟩ := boxes w _ _ _ W hW
  have hM : Mem W B p v size zs st := by subst hW; exact (h.alloc _).alloc _
  clear hW h
  have C := cellIn hM hv a h0 h1
  obtain ⟨cc, cf⟩ := hM.cell hv h0 h1
  rw [hy] at cc
  have hne : ¬ y = old := fun e => ho (hy.trans e)
  have HY := Lib.hid hy
  have HM := Lib.hid hM
  have HV := Lib.hid hv
  have HWR := Lib.hid wr
  clear hM hv wr hy
  refine C.mono ?_
  rintro e w' ⟨rfl, rfl⟩
  clear C
  go_wp2
  have D := HM.out.setOther (q := ⟨w.heap.size + 1, 0, none⟩) (by simp; omega) (by rw [HV.out]; simp [Value.ownBlock]; omega) (.int .u16 0)
  have d0 := cellOther (W := W) (a := ⟨w.heap.size + 1, 0, none⟩) (b := ⟨w.heap.size, 0, none⟩) (.int .u16 0) (by simp) b0
  have d1 := cellSame (W := W) (a := ⟨w.heap.size + 1, 0, none⟩) (.int .u16 0) b1
  have d2 := cellOther (a := ⟨p, 2, none⟩) (.int .i64 (st + 1)) (by simp; omega) d1
  refine leaves_cons (f := 41) (args := #[.pointer (some ⟨w.heap.size, 0, none⟩), .pointer (some ⟨w.heap.size + 1, 0, none⟩)]) (by simp) (by simp [go_sem]) ?_
  refine (okSwap (p := p) (st := st) .returning d0 d1 D.c2 (D.f 2) k0 k1).mono ?_
  rintro e u' w'' ⟨rfl, rfl, rfl⟩
  refine ⟨_, by simp [results, Try.results25, go_sem, d2], rfl, _, D.setSteps (st + 1), ?_, Later.refl _ _⟩
  exact ((HWR.out p v).setCell (.inl (by simp)) _).setCell (.inr (.inl rfl)) _

set_option maxRecDepth 100000 in
set_option maxHeartbeats 1600000 in
theorem swapOut (h : Mem w B p v size zs st) (a old x : Int) (h0 : a < 0 ∨ zs.length ≤ a) :
    Calls Try.prog 25 #[.pointer (some ⟨p, 0, none⟩), .int .i64 a, .int .i64 old, .int .i64 x] w fun e w' => e = .returned (.tuple #[.bool false, .int .u16 10]) ∧ Did B p v size zs st w w' := by
  have hpl := h.lt
  have hrl : ∀ g, v.ownBlock = some g → g < w.heap.size := fun g hg => (h.rowLt hg).2
  have hmf : ∀ (fn : Fn) (first cap : Array Value) (w : World), (Instr.makeFunc fn first cap).run Try.prog w = .ok (.func fn first cap) w := fun _ _ _ _ => rfl
  go_enter_defers Try.func25, Try.ntmps25
  go_wp2_with fail
  generalize hW : (w.alloc (.cells #[.pointer (some ⟨p, 0, none⟩)] 37)).alloc (.cells #[.int .u16 0] 56) = W
  obtain ⟨b0, b1, f1, wr⟩ := boxes w _ _ _ W hW
  have hM : Mem W B p v size zs st := by subst hW; exact (h.alloc _).alloc _
  clear hW h
  have C := cellOut hM a h0
  have HM := Lib.hid hM
  have HR := Lib.hid hrl
  have HWR := Lib.hid wr
  clear hM wr hrl h0
  refine C.mono ?_
  rintro e w' ⟨rfl, rfl⟩
  clear C
  go_wp2
  have D := HM.out.setOther (q := ⟨w.heap.size + 1, 0, none⟩) (by simp; omega) (fun e => by have := HR.out _ e; simp at this; omega) (.int .u16 10)
  have d0 := cellOther (a := ⟨w.heap.size + 1, 0, none⟩) (b := ⟨w.heap.size, 0, none⟩) (.int .u16 10) (by simp) b0
  have d1 := cellSame (a := ⟨w.heap.size + 1, 0, none⟩) (.int .u16 10) b1
  refine leaves_cons (f := 41) (args := #[.pointer (some ⟨w.heap.size, 0, none⟩), .pointer (some ⟨w.heap.size + 1, 0, none⟩)]) (by simp) (by simp [go_sem]) ?_
  refine (errSwap (p := p) .returning 10 (by omega) d0 d1).mono ?_
  rintro e u' w'' ⟨rfl, rfl, rfl⟩
  refine ⟨_, by simp [results, Try.results25, go_sem, d1], rfl, _, D, ?_, Later.refl _ _⟩
  exact (HWR.out p v).setCell (.inl (by simp)) _

end

end Go.Proofs.Ytfnjbbokbdddpaa.M2
namespace Go.Proofs.Ytfnjbbokbdddpaa.M2
open Go.RowKit

theorem infoInt64 : (Try.prog.info? 2).map (fun i => (i.zero, i.size, i.bytes)) = some (some (.int .i64 0), 1, 8) := by kernel_rfl

def sizeOf' (n : Int) : Int := if n < 0 then 0 else if 1000 < n then 1000 else n
theorem sizeOf'_in (n : Int) : 0 ≤ sizeOf' n ∧ sizeOf' n ≤ 1000 := by unfold sizeOf'; repeat' split
                                                                      all_goals omega

theorem newAny (n : Int) (w : World) :
    Calls Try.prog 32 #[.int .i64 n] w fun e w' => e = .returned (.pointer (some ⟨w.heap.size, 0, none⟩)) ∧ Mem w' w.heap.size w.heap.size (.slice none 0 0) (sizeOf' n) [] 0 ∧ Below w.heap.size w w' := by
  have hb := sizeOf'_in n
  have fin : ∀ W, w.alloc (.cells #[.int .i64 (sizeOf' n), .slice none 0 0, .int .i64 0] 84) = W → Mem W w.heap.size w.heap.size (.slice none 0 0) (sizeOf' n) [] 0 ∧ Below w.heap.size w W := by
    rintro W rfl
    exact ⟨⟨heap_alloc_new w _, Nat.le_refl _, World.ownsRow_nil _ _ _ _, hb.1, hb.2, by simpa using hb.1⟩, (Below.refl _ _).alloc (Nat.le_refl _) _⟩
  have HF := Lib.hid fin
  clear fin hb
  rcases (show n < 0 ∨ 1000 < n ∨ (0 ≤ n ∧ n ≤ 1000) from by omega) with h | h | ⟨h, h'⟩
  · have e0 : sizeOf' n = 0 := by unfold sizeOf'; rw [if_pos h]
    rw [e0] at HF ⊢
    clear e0
    go_enter Try.func32, Try.ntmps32
    go_wp2
    go_ret
    exact ⟨rfl, HF.out _ rfl⟩
  · have e0 : sizeOf' n = 1000 := by unfold sizeOf'; rw [if_neg (by omega), if_pos h]
    rw [e0] at HF ⊢
    clear e0
    go_enter Try.func32, Try.ntmps32
    go_wp2
    go_ret
    exact ⟨rfl, HF.out _ rfl⟩
  · have e0 : sizeOf' n = n := by unfold sizeOf'; rw [if_neg (by omega), if_neg (by omega)]
    rw [e0] at HF ⊢
    clear e0
    go_enter Try.func32, Try.ntmps32
    go_wp2
    go_ret
    exact ⟨rfl, HF.out _ rfl⟩

end Go.Proofs.Ytfnjbbokbdddpaa.M2
namespace Go.Proofs.Ytfnjbbokbdddpaa.M2
open Go.RowKit

theorem wp_noPanic {P : Program} {s : Code} {K : Act → World → Prop} {Q' : Exit → Act → World → Prop} {a : Act} {w : World} (first : s.wp P (Exit.then K (fun _ _ _ => False)) a w) : s.wp P (Exit.then K Q') a w := by
  refine Go.wp_mono first ?_
  intro e a' w' hq
  cases e with
  | normal => exact hq
  | exit id => exact False.elim hq
  | goto l => exact False.elim hq
  | ret => exact False.elim hq
  | panic ch => exact False.elim hq
  | outgrown => exact False.elim hq

theorem ownShape {w : World} {base : Nat} {e : TypeId} {v : Value} {n : Nat} {xs : List Value} (h : w.ownsRow base e 1 v n xs) : ∃ ao cap, v = .slice ao n cap := by
  rcases h.2 with ⟨rfl, e⟩ | ⟨g, cap, cur, rfl, _⟩
  · exact ⟨none, 0, by rw [e]⟩
  · exact ⟨_, cap, rfl⟩

section
variable {w : World} {B p : Nat} {v : Value} {size : Int} {zs : List Int} {st : Int}

theorem grew {W w1 : World} {N : Nat} {v' : Value} {m : Nat} {x : Value} (h : Mem W B p v size zs st) (_ : p < N) (b0 : W.cell? ⟨N, 0, none⟩ = some x) (b1 : W.cell? ⟨N + 1, 0, none⟩ = some (.int .u16 0)) (f1 : W.frozen? ⟨N + 1, 0, none⟩ = false)
    (hr : ∀ g, v.ownBlock = some g → g < N) (ho : w1.ownsRow B 2 1 v' (zs.length + m) (zs.map (Value.int .i64) ++ List.replicate m (.int .i64 0))) (hg : W.grownBy w1 v.ownBlock) (hl : ∀ g, v'.ownBlock = some g → v.ownBlock = some g ∨ W.heap.size ≤ g) :
    w1.cell? ⟨N, 0, none⟩ = some x ∧ w1.cell? ⟨N + 1, 0, none⟩ = some (.int .u16 0) ∧ w1.frozen? ⟨N + 1, 0, none⟩ = false ∧ w1.cell? ⟨p, 1, none⟩ = some v ∧ w1.frozen? ⟨p, 1, none⟩ = false ∧
    (((zs.length + m : Nat) : Int) ≤ size → Mem (w1.setCell ⟨p, 1, none⟩ v') B p v' size (zs ++ List.replicate m 0) st ∧ (∀ g, v'.ownBlock = some g → g ≠ N + 1)) := by
  have e0 : w1.heap[N]? = W.heap[N]? := hg.block N (World.block_lt_of_cell? W _ b0) (fun e => by have := hr N e.symm; omega)
  have e1 : w1.heap[N + 1]? = W.heap[N + 1]? := hg.block (N + 1) (World.block_lt_of_cell? W _ b1) (fun e => by have := hr (N + 1) e.symm; omega)
  have ep : w1.heap[p]? = W.heap[p]? := hg.block p h.lt (fun e => h.ne e.symm)
  have hN := World.block_lt_of_cell? W _ b1
  simp only at hN
  refine ⟨(World.cell?_of_block (a := ⟨N, 0, none⟩) e0).trans b0, (World.cell?_of_block (a := ⟨N + 1, 0, none⟩) e1).trans b1, (World.frozen?_of_block (a := ⟨N + 1, 0, none⟩) e1).trans f1, (World.cell?_of_block (a := ⟨p, 1, none⟩) ep).trans h.c1, (World.frozen?_of_block (a := ⟨p, 1, none⟩) ep).trans (h.f 1), ?_⟩
  intro hs
  have hne : v'.ownBlock ≠ some p := fun e => by
    rcases hl p e with e' | e'
    · exact h.ne e'
    · have := h.lt; omega
  refine ⟨⟨?_, h.low, ?_, h.s0, h.s1, by simpa using hs⟩, ?_⟩
  · rw [heap_setCell_same w1 p 1 _ _ _ (ep.trans h.block)]; rfl
  · have := ownsRow_setCell_other (a := ⟨p, 1, none⟩) ho hne v'
    simpa using this
  · intro g hg' e
    subst e
    rcases hl _ hg' with e' | e'
    · have := hr _ e'; omega
    · omega

set_option maxRecDepth 100000 in
set_option maxHeartbeats 3200000 in
theorem allocOk (h : Mem w B p v size zs st) (m : Nat) (hm : (m : Int) ≤ size - zs.length) (k0 : 0 ≤ st) (k1 : st < 1000000) :
    Calls Try.prog 35 #[.pointer (some ⟨p, 0, none⟩), .int .i64 (m : Int)] w fun e w' => e = .returned (.tuple #[.int .i64 (zs.length : Int), .int .u16 0]) ∧ Did B p v size (zs ++ List.replicate m 0) (st + 1) w w' := by
  have hpl := h.lt
  have s1 := h.s1
  have s2 := h.room
  have hrl : ∀ g, v.ownBlock = some g → g < w.heap.size := fun g hg => (h.rowLt hg).2
  obtain ⟨ao, cap, hv⟩ := h.shape
  obtain ⟨i0, hi, hz0, hz1, hz2⟩ := info_parts infoInt64
  have hmf : ∀ (fn : Fn) (first cap : Array Value) (w : World), (Instr.makeFunc fn first cap).run Try.prog w = .ok (.func fn first cap) w := fun _ _ _ _ => rfl
  go_enter_defers Try.func35, Try.ntmps35
  go_wp2_with fail
  generalize hW : (w.alloc (.cells #[.pointer (some ⟨p, 0, none⟩)] 37)).alloc (.cells #[.int .u16 0] 56) = W
  obtain ⟨b0, b1, f1, wr0⟩ := boxes w _ _ _ W hW
  have hM : Mem W B p v size zs st := by subst hW; exact (h.alloc _).alloc _
  clear hW h
  have C := roomAny hM
  have wr := wr0 p v
  clear wr0
  have HM := Lib.hid hM
  have HV := Lib.hid hv
  have HWR := Lib.hid wr
  have HR := Lib.hid hrl
  have HI := Lib.hid hi
  have H0 := Lib.hid hz0
  have H1 := Lib.hid hz1
  have H2 := Lib.hid hz2
  clear hM wr hrl hi hz0 hz1 hz2 hv
  refine C.mono ?_
  rintro e w' ⟨rfl, n, rfl⟩
  clear C
  have c1 := HM.out.c1
  rw [HV.out] at c1
  go_wp2
  have HM2 := Lib.hid (HM.out.drewN n)
  have HWR2 := Lib.hid (HWR.out.drewN n)
  have b0' : (W.drewN n).cell? ⟨w.heap.size, 0, none⟩ = some (.pointer (some ⟨p, 0, none⟩)) := b0
  have b1' : (W.drewN n).cell? ⟨w.heap.size + 1, 0, none⟩ = some (.int .u16 0) := b1
  have f1' : (W.drewN n).frozen? ⟨w.heap.size + 1, 0, none⟩ = false := f1
  have c1' : (W.drewN n).cell? ⟨p, 1, none⟩ = some (.slice ao zs.length cap) := c1
  clear b0 b1 f1 c1 HM HWR
  generalize W.drewN n = W2 at *
  have HO := Lib.hid HM2.out.own
  rw [HV.out] at HO
  have HB := Lib.hid HM2.out.base
  refine wp_noPanic ?_
  go_region_law ((refine step_append_zeros rfl (.tmp 24) (.tmp 25) 22 3 rfl B 2 .i64 i0 (.int .i64 0) Try.underlying22 Try.underlying3 HI.out H0.out H1.out H2.out rfl rfl (.slice ao zs.length cap) zs.length _ rfl HO.out m rfl (by omega) (by omega) HB.out ?_; intro v' w1 ho hg hl; obtain ⟨ao', cap', rfl⟩ := ownShape ho; rw [← HV.out] at hg hl; have hgr := grew HM2.out hpl b0' b1' f1' HR.out ho ⟨hg.os, hg.tape, hg.output, hg.size, hg.block⟩ hl; obtain ⟨x0, x1, x2, x3, x4, x5⟩ := hgr; have HX := Lib.hid x5; have HG := Lib.hid hg; have HL := Lib.hid hl; clear x5 ho hg hl; rw [HV.out] at x3))
  all_goals go_wp2
  all_goals
    obtain ⟨D0, D1⟩ := HX.out (by omega)
    have D := D0.setOther (q := ⟨w.heap.size + 1, 0, none⟩) (by simp; omega) (fun e => D1 _ e rfl) (.int .u16 0)
    have y0 := cellOther (a := ⟨w.heap.size + 1, 0, none⟩) (b := ⟨w.heap.size, 0, none⟩) (.int .u16 0) (by simp) (cellOther (a := ⟨p, 1, none⟩) (.slice ao' (zs.length + m) cap') (by simp; omega) x0)
    have y1 := cellSame (a := ⟨w.heap.size + 1, 0, none⟩) (.int .u16 0) (cellOther (a := ⟨p, 1, none⟩) (.slice ao' (zs.length + m) cap') (by simp; omega) x1)
    have y2 := cellOther (a := ⟨p, 2, none⟩) (.int .i64 (st + 1)) (by simp; omega) y1
    refine leaves_cons (f := 52) (args := #[.pointer (some ⟨w.heap.size, 0, none⟩), .pointer (some ⟨w.heap.size + 1, 0, none⟩)]) (by simp) (by simp [go_sem]) ?_
    refine (okAlloc (p := p) (st := st) .returning y0 y1 D.c2 (D.f 2) k0 k1).mono ?_
    rintro e u' w'' ⟨rfl, rfl, rfl⟩
    refine ⟨_, by simp [results, Try.results35, go_sem, y2], rfl, _, D.setSteps (st + 1), ?_, ?_⟩
    · exact (((HWR2.out.drew.grown HG.out).setCell (.inr (.inl rfl)) _).setCell (.inl (by simp)) _).setCell (.inr (.inl rfl)) _
    · intro g hg
      rcases HL.out g hg with e | e
      · exact .inl e
      · exact .inr (Nat.le_trans HWR2.out.size e)

end

end Go.Proofs.Ytfnjbbokbdddpaa.M2
namespace Go.Proofs.Ytfnjbbokbdddpaa.M2
open Go.RowKit

theorem sizeInt64 : (Try.prog.info? 2).map (·.size) = some 1 := by kernel_rfl

theorem madeFacts {w w1 : World} {g n : Nat} {ao : Option Addr} {Z : List Value} (ho : w1.ownsRow w.heap.size 2 1 (.slice (some ⟨g, 0, none⟩) n n) n (madeCells (Value.int .i64 0).cells (n * 1)).toList) (hg : w.grownBy w1 none)
    (hs : 0 < Z.length → ∃ ad, ao = some ad ∧ ∀ j u, Z[j]? = some u → w.cell? (ad.add j) = some u) :
    w1.heap[g]? = some (.cells (List.replicate n (.int .i64 0)).toArray 2 (0, 0)) ∧ (0 < Z.length → ∃ ad, ao = some ad ∧ ∀ j u, Z[j]? = some u → w1.cell? (ad.add j) = some u) ∧ Below w.heap.size w w1 := by
  refine ⟨?_, ?_, (Below.refl _ _).grown hg (Nat.le_refl _) (by simp)⟩
  · have := rowWhole ho
    rw [show (Value.int .i64 0).cells = #[Value.int .i64 0] from rfl, Nat.mul_one, toList_madeCells_one] at this
    exact this
  · intro hp
    obtain ⟨ad, rfl, hc⟩ := hs hp
    exact ⟨ad, rfl, fun j u hu => hg.cell (hc j u hu) (by simp)⟩

section
variable {w : World} {B p : Nat} {v : Value} {size : Int} {zs : List Int} {st : Int}

set_option maxRecDepth 100000 in
set_option maxHeartbeats 1600000 in
theorem cellsAny (h : Mem w B p v size zs st) :
    Calls Try.prog 18 #[.pointer (some ⟨p, 0, none⟩)] w fun e w' => e = .returned (.slice (some ⟨w.heap.size, 0, none⟩) zs.length zs.length) ∧
      w'.ownsRow w.heap.size 2 1 (.slice (some ⟨w.heap.size, 0, none⟩) zs.length zs.length) zs.length (zs.map (Value.int .i64)) ∧ Below w.heap.size w w' := by
  obtain ⟨ao, cap, hv⟩ := h.shape
  have hs : (zs.length : Int) ≤ 1000 := by have := h.s1; have := h.room; omega
  have hs' : zs.length ≤ 1000 := by omega
  have hpl := h.lt
  have c1 := h.c1
  rw [hv] at c1
  obtain ⟨i0, hi, hz0, hz1, hz2⟩ := info_parts infoInt64
  obtain ⟨Z, hZ⟩ : ∃ Z, Z = zs.map (Value.int .i64) := ⟨_, rfl⟩
  have hsrc : 0 < Z.length → ∃ ad, ao = some ad ∧ ∀ j u, Z[j]? = some u → w.cell? (ad.add j) = some u := by
    intro hp
    subst hZ
    obtain ⟨g, cap', hv', _⟩ := h.row (by simpa using hp)
    rw [hv] at hv'
    simp only [Value.slice.injEq, true_and] at hv'
    refine ⟨⟨g, 0, none⟩, hv'.1, ?_⟩
    exact h.own.cells (g := g) (by rw [hv, hv'.1]; rfl)
  have hlen : Z.length = zs.length := by rw [hZ]; simp
  have h1c : ∀ u ∈ Z, u.oneCell' = true := by subst hZ; exact ints_oneCell _ _
  rw [← hZ]
  have HI := Lib.hid hi
  have H0 := Lib.hid hz0
  have H1 := Lib.hid hz1
  have H2 := Lib.hid hz2
  have HL := Lib.hid hlen
  have HS := Lib.hid hsrc
  have HC := Lib.hid h1c
  clear hi hz0 hz1 hz2 hlen hsrc h1c hZ h hv
  go_enter Try.func18, Try.ntmps18
  go_wp2_with (first
    | (at_make; refine wpList_make_full _ rfl _ _ 22 rfl w.heap.size 2 i0 (.int .i64 0) 1 Try.underlying22 HI.out H0.out H1.out _ _ _ _ zs.length rfl rfl (by simp) (by simp) (by rw [H2.out]; omega) (by unfold maxLen; omega) (Nat.le_refl _) ?_; intro w1 ho hg; have c1' := hg.cell c1 (by simp); have HF := Lib.hid (madeFacts ho hg HS.out); clear ho hg)
    | (with_reducible refine wpList_copy_splice rfl (.tmp 12) (.tmp 16) 22 22 rfl 2 Try.underlying22 sizeInt64 _ _ _ _ _ _ rfl rfl w.heap.size 0 (List.replicate zs.length (.int .i64 0)) 2 HF.out.1 Z (by rw [HL.out]; simp) (fun hp => ⟨rfl, HF.out.2.1 hp⟩) (by rw [HL.out]; simp) HC.out w.heap.size w HF.out.2.2 (Nat.le_refl _) ?_; intro w2 hg2 hb2))
  go_ret
  refine ⟨rfl, ?_, hb2⟩
  have hb := hg2.out
  refine rowOf (Nat.le_refl _) HL.out (by unfold maxLen; omega) ?_
  rw [hb]
  simp [splice, HL.out]

end

end Go.Proofs.Ytfnjbbokbdddpaa.M2
namespace Go.Proofs.Ytfnjbbokbdddpaa.M2
open Go.RowKit

section
variable {w : World} {B p : Nat} {size : Int} {zs : List Int} {st : Int}

theorem cells1 (h : Mem1 w B p size zs st) :
    Calls Try.prog 18 #[.pointer (some ⟨p, 0, none⟩)] w fun e w' => e = .returned (.slice (some ⟨w.heap.size, 0, none⟩) zs.length zs.length) ∧
      w'.ownsRow w.heap.size 2 1 (.slice (some ⟨w.heap.size, 0, none⟩) zs.length zs.length) zs.length (zs.map (Value.int .i64)) ∧ Below w.heap.size w w' := by
  obtain ⟨v, m⟩ := h
  exact cellsAny m

end

end Go.Proofs.Ytfnjbbokbdddpaa.M2
