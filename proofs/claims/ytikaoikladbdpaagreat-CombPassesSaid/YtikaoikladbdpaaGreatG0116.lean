/-
  Which blocks a call may touch: those of a set, and new ones; append on a row of one's own, and where the row lies behind it; lists of numbers that lie in memory. Conditions: none; no Go function is looked at here. Sorting by keys in plain lists: the order, what is sorted and a permutation, what merging two sorted lists comes to, blocks. Conditions: none; no Go function is looked at here. A row of ints of one's own: what it holds, what becomes of it when a cell is written. Conditions: none; no Go function is looked at here. A list that lies anywhere in its block, and may be written to behind its end as far as its room goes: cut at its front, appended to. Conditions: none; no Go function is looked at here. What texts of several stages share: how many there may be, boxes of a code and a value, what an operation of a deque tells, equality of lists. Conditions: none. Lists that came in: of bytes, of int32, of operations; each read as what its cells hold. Conditions: none. cmp.Compare at int32, and the comparison that sortBy hands to the sort. Conditions: operations that lie in memory, a variable that holds them.
-/
import Derived.Test.YtikaoikladbdpaaGreatProg
import Derived.WalkKit
import Derived.ProofKit
import Derived.Below
import Derived.RowKit3
import Derived.WalkSmall
import Derived.OneCell
import Derived.OwnWalk
import Derived.Laws.CopyOwn
import Derived.Laws.AppendOwnNone
import Derived.Deep.RegionLaw
import Derived.Deep.QuietTactic
import Derived.Deep.Cut
import Derived.BigQuiet
import Derived.IntWalk
import Derived.Lib.Hide
import Derived.Laws.StructEq
import Derived.KernelRfl
import Derived.StillTailTactics
import Derived.Deep.RegionHeld3
import Derived.BigRegion
import Derived.Deep.Upon
import Derived.ChangeSlices
import Derived.OpenShut
import Derived.Deep.Slices
import Derived.Deep.Fields
import Derived.SizedLaws
import Derived.Laws.EntriesVeiled
namespace Go.Proofs.YtikaoikladbdpaaGreat
open Go.RowKit

structure Wrote (F : Nat → Prop) (w w' : World) : Prop where
  os : w'.os = w.os
  tape : w'.tape = w.tape
  output : w'.output = w.output
  size : w.heap.size ≤ w'.heap.size
  block : ∀ k, k < w.heap.size → ¬ F k → w'.heap[k]? = w.heap[k]?

def Later (F F' : Nat → Prop) (w : World) : Prop := ∀ g, F' g → F g ∨ w.heap.size ≤ g

def Apart (F G : Nat → Prop) : Prop := ∀ g, F g → ¬ G g

theorem Apart.symm {F G : Nat → Prop} (h : Apart F G) : Apart G F := fun g a b => h g b a
theorem Later.refl (F : Nat → Prop) (w : World) : Later F F w := fun _ h => .inl h
theorem Later.trans {F F' F'' : Nat → Prop} {a b : World} (h : Later F F' a) (k : Later F' F'' b) (hs : a.heap.size ≤ b.heap.size) : Later F F'' a := fun g hg => by
  rcases k g hg with h1 | h1
  · exact h g h1
  · exact .inr (Nat.le_trans hs h1)
theorem Later.apart {F F' G : Nat → Prop} {w : World} (h : Later F F' w) (ha : Apart F G) (hG : ∀ g, G g → g < w.heap.size) : Apart F' G := fun g h1 h2 => by
  rcases h g h1 with h3 | h3
  · exact ha g h3 h2
  · have := hG g h2; omega

section
variable {F : Nat → Prop} {a b c w w' : World}
theorem Wrote.refl (F : Nat → Prop) (w : World) : Wrote F w w := ⟨rfl, rfl, rfl, Nat.le_refl _, fun _ _ _ => rfl⟩
theorem Wrote.trans (h : Wrote F a b) (k : Wrote F b c) : Wrote F a c :=
  ⟨k.os.trans h.os, k.tape.trans h.tape, k.output.trans h.output, Nat.le_trans h.size k.size, fun i hi h1 => (k.block i (Nat.lt_of_lt_of_le hi h.size) h1).trans (h.block i hi h1)⟩
theorem Wrote.step {F' : Nat → Prop} (h : Wrote F a b) (hl : Later F F' a) (k : Wrote F' b c) : Wrote F a c :=
  ⟨k.os.trans h.os, k.tape.trans h.tape, k.output.trans h.output, Nat.le_trans h.size k.size, fun i hi h1 => (k.block i (Nat.lt_of_lt_of_le hi h.size) (fun e => by
    rcases hl i e with h2 | h2
    · exact h1 h2
    · omega)).trans (h.block i hi h1)⟩
theorem Wrote.of (h : Below w.heap.size w w') (F : Nat → Prop) : Wrote F w w' := ⟨h.os, h.tape, h.output, h.size, fun k hk _ => h.block k hk⟩
theorem Wrote.below {B : Nat} (h : Wrote F w w') (hB : B ≤ w.heap.size) (hF : ∀ g, F g → B ≤ g) : Below B w w' :=
  ⟨h.os, h.tape, h.output, h.size, fun k hk => h.block k (by omega) (fun e => by have := hF k e; omega)⟩
theorem Wrote.alloc (h : Wrote F a w) (o : Obj) : Wrote F a (w.alloc o) := h.trans ⟨rfl, rfl, rfl, by simp, fun k hk _ => Below.heap_alloc _ _ _ hk⟩
theorem Wrote.drewN (h : Wrote F a w) (n : Nat) : Wrote F a (w.drewN n) := ⟨h.os, h.tape, h.output, h.size, h.block⟩
theorem Wrote.drew (h : Wrote F a w) : Wrote F a w.drew := ⟨h.os, h.tape, h.output, h.size, h.block⟩
theorem Wrote.setCell (h : Wrote F a w) {q : Addr} (hq : a.heap.size ≤ q.block ∨ F q.block) (u : Value) : Wrote F a (w.setCell q u) :=
  ⟨h.os, h.tape, h.output, by simpa [World.setCell] using h.size, fun k hk h1 => by
    rw [Below.heap_setCell _ _ _ _ (by
      rintro rfl
      rcases hq with h' | h'
      · omega
      · exact h1 h')]
    exact h.block k hk h1⟩
theorem Wrote.grown {row : Option Nat} (h : Wrote F a w) (hg : w.grownBy w' row) (hr : ∀ g, row = some g → F g ∨ a.heap.size ≤ g) : Wrote F a w' :=
  ⟨hg.os.trans h.os, hg.tape.trans h.tape, hg.output.trans h.output, Nat.le_trans h.size hg.size, fun k hk h1 => (hg.block k (Nat.lt_of_lt_of_le hk h.size) (fun e => by
    rcases hr k e.symm with h' | h'
    · exact h1 h'
    · omega)).trans (h.block k hk h1)⟩
end

theorem cellSame {W : World} {a : Addr} {u : Value} (x : Value) (h : W.cell? a = some u) : (W.setCell a x).cell? a = some x := by
  apply World.cell?_setCell_same; exact h
theorem cellOther {W : World} {a b : Addr} {u : Value} (x : Value) (hb : b.block ≠ a.block) (h : W.cell? b = some u) : (W.setCell a x).cell? b = some u :=
  (World.cell?_of_block (Below.heap_setCell _ _ _ _ hb)).trans h

theorem run_append_later {P : Program} (w : World) (base : Nat) (t ty e : TypeId) (i : TypeInfo) (z : Value) (size bytes : Nat) (ht : P.underlying t = some (.slice e)) (hi : P.info? e = some i) (hz : i.zero = some z)
    (hsize : i.size = size) (hby : i.bytes = bytes) (hzs : z.cells.size = size) (hsz : 0 < size)
    (v : Value) (n : Nat) (xs : List Value) (hown : w.ownsRow base e size v n xs)
    (a : Addr) (m c : Nat) (news : List Value) (hl : news.length = m * size) (hnews : ∀ j u, news[j]? = some u → w.cell? (a.add j) = some u) (h1 : ∀ u ∈ news, u.oneCell' = true)
    (h63 : n + m ≤ maxLen) (hbytes : (n + m) * bytes ≤ 140737488355328) (hbase : base ≤ w.heap.size) :
    ∃ v' w', (Builtin.append_ #[t, t] ty #[v, .slice (some a) m c]).run P w = .ok v' w' ∧ w'.ownsRow base e size v' (n + m) (xs ++ news) ∧ w.grownBy w' v.ownBlock ∧
      (∀ g, v'.ownBlock = some g → v.ownBlock = some g ∨ w.heap.size ≤ g) := by
  obtain ⟨v', w', hr, h2, h3, _⟩ := run_append_own (P := P) w base t ty e i z size bytes ht hi hz hsize hby hzs hsz v n xs hown a m c news hl hnews h1 h63 hbytes hbase
  refine ⟨v', w', hr, h2, h3, ?_⟩
  intro g hg
  rcases hown.2 with ⟨rfl, rfl⟩ | ⟨g0, cap, cur, rfl, hbg, hg0, hnc, hcm, hcs, htake⟩
  · have hx : xs = [] := List.eq_nil_of_length_eq_zero (by simpa using hown.1)
    subst hx
    obtain ⟨v2, w2, hr2, h22, _⟩ := run_append_own (P := P) w w.heap.size t ty e i z size bytes ht hi hz hsize hby hzs hsz _ 0 [] (World.ownsRow_nil w w.heap.size e size) a m c news hl hnews h1 h63 hbytes (Nat.le_refl _)
    rw [hr] at hr2
    injection hr2 with e1 e2
    subst e1
    exact .inr (h22.lt g hg).1
  · by_cases hroom : n + m ≤ cap
    · obtain ⟨w2, hr2, _⟩ := run_append_fits (P := P) w base t ty e i size ht hi hsize g0 n cap xs hown a m c news hl hnews h1 hroom
      rw [hr] at hr2
      injection hr2 with e1 e2
      subst e1
      exact .inl (by simpa [Value.ownBlock] using hg)
    · have holds : ∀ j u, xs[j]? = some u → w.cell? ((⟨g0, 0, none⟩ : Addr).add j) = some u := hown.cells (g := g0) rfl
      subst hsize
      subst hby
      have hsmall : n + m ≤ 9223372036854775807 := by simp only [maxLen] at h63; omega
      have hr2 := run_append_grow (P := P) w t ty e i z ht hi hz ⟨g0, 0, none⟩ n cap xs hown.1 holds a m c news hl hnews (by omega) (by omega) (growslice_fits (by omega) hbytes)
      rw [hr] at hr2
      injection hr2 with e1 e2
      subst e1
      simp only [Value.ownBlock, Option.some.injEq] at hg
      exact .inr (by omega)

theorem wpList_append_later {P : Program} {w : World} {ops : Array Oper} {rest : List Oper} {o : Oper} {a : Act} {Q : Exit → Act → World → Prop} (hgd : o.guard = none) (s x : Operand) (t : TypeId)
    (ho : o.op = .call { callee := .builtin .append, args := #[s, x], argTypes := #[t, t] })
    (base : Nat) (e : TypeId) (i : TypeInfo) (z : Value) (size bytes : Nat) (ht : P.underlying t = some (.slice e)) (hi : P.info? e = some i) (hz : i.zero = some z)
    (hsize : i.size = size) (hby : i.bytes = bytes) (hzs : z.cells.size = size) (hsz : 0 < size)
    (v : Value) (n : Nat) (xs : List Value) (hs : a.eval s = v) (hown : w.ownsRow base e size v n xs)
    (ad : Addr) (m c : Nat) (news : List Value) (hx : a.eval x = .slice (some ad) m c) (hl : news.length = m * size) (hnews : ∀ j u, news[j]? = some u → w.cell? (ad.add j) = some u) (h1 : ∀ u ∈ news, u.oneCell' = true)
    (h63 : n + m ≤ maxLen) (hbytes : (n + m) * bytes ≤ 140737488355328) (hbase : base ≤ w.heap.size)
    (h : ∀ v' w', w'.ownsRow base e size v' (n + m) (xs ++ news) → w.grownBy w' v.ownBlock → (∀ g, v'.ownBlock = some g → v.ownBlock = some g ∨ w.heap.size ≤ g) → wpList P ops Q rest (a.put o.dst v') w') : wpList P ops Q (o :: rest) a w := by
  refine wpList_plain hgd fun K hK => ?_
  obtain ⟨v', w', hr, h2, h3, h4⟩ := run_append_later (P := P) w base t o.type e i z size bytes ht hi hz hsize hby hzs hsz v n xs hown ad m c news hl hnews h1 h63 hbytes hbase
  unfold Oper.wp
  simp [execOp, ho, resolve, invoke, builtin, hs, hx, hr, Result.andThen]
  exact hK _ _ (h v' w' h2 h3 h4)

theorem step_append_own {P : Program} (w : World) {ops : Array Oper} {o : Oper} {a : Act} {K : Act → World → Prop} {Q : Exit → Act → World → Prop} {E : Prop}
    (hg : o.guard = none) (s x : Operand) (t : TypeId) (hop : o.op = Op.call { callee := Callee.builtin Builtin.append, args := #[s, x], argTypes := #[t, t] })
    (base : Nat) (e : TypeId) (i : TypeInfo) (z : Value) (size bytes : Nat) (h1 : P.underlying t = some (.slice e)) (h2 : P.info? e = some i) (h3 : i.zero = some z) (h4 : i.size = size) (h5 : i.bytes = bytes) (h6 : z.cells.size = size) (h7 : 0 < size)
    (v : Value) (k : Nat) (xs : List Value) (hs : a.eval s = v) (hown : w.ownsRow base e size v k xs) (ad : Addr) (m c : Nat) (news : List Value) (hx : a.eval x = .slice (some ad) m c) (hn : news.length = m * size)
    (hc : ∀ j u, news[j]? = some u → w.cell? (ad.add j) = some u) (h1c : ∀ u ∈ news, u.oneCell' = true) (b1 : k + m ≤ maxLen) (b2 : (k + m) * bytes ≤ 140737488355328) (b3 : base ≤ w.heap.size)
    (hK : ∀ v' w', w'.ownsRow base e size v' (k + m) (xs ++ news) → w.grownBy w' v.ownBlock → K (a.put o.dst v') w') :
    if Region.wanted o (yielded ops a.tmps) = true then Oper.wp P o a w K Q else E := by
  have hw : Region.wanted o (yielded ops a.tmps) = true := by simp [Region.wanted, hg]
  rw [if_pos hw]
  exact wp_append_own w s x t hop base e i z size bytes h1 h2 h3 h4 h5 h6 h7 v k xs hs hown ad m c news hx hn hc h1c b1 b2 b3 fun v' w' r1 r2 _ => hK v' w' r1 r2

theorem own_cut {w : World} {base n k g cap : Nat} {e : TypeId} {size : Nat} {xs : List Value} (h : w.ownsRow base e size (.slice (some ⟨g, 0, none⟩) n cap) n xs) (hk : k ≤ n) : w.ownsRow base e size (.slice (some ⟨g, 0, none⟩) k cap) k (xs.take (k * size)) := by
  rcases h.2 with ⟨h', _⟩ | ⟨g', cap', cur, h', hb, hg, hle, hm, hcs, htake⟩
  · simp at h'
  · simp only [Value.slice.injEq, Option.some.injEq, Addr.mk.injEq, and_true, true_and] at h'
    obtain ⟨rfl, rfl⟩ := h'
    have hmul : k * size ≤ n * size := Nat.mul_le_mul_right _ hk
    refine ⟨by rw [List.length_take, h.1]; omega, .inr ⟨g, cap, cur, rfl, hb, hg, by omega, hm, hcs, ?_⟩⟩
    rw [← htake, List.take_take, Nat.min_eq_left hmul]

def Reads (k : IntKind) (w : World) (ao : Option Addr) (len : Nat) (zs : List Int) : Prop :=
  zs.length = len ∧ (0 < len → ∃ b off, ao = some ⟨b, off, none⟩ ∧ b < w.heap.size ∧ ∀ i, i < len → w.cell? ⟨b, off + i, none⟩ = some (.int k (zs.getD i 0)))

theorem Reads.keep {k : IntKind} {w w' : World} {ao : Option Addr} {len : Nat} {zs : List Int} (h : Reads k w ao len zs) (hb : Below w.heap.size w w') : Reads k w' ao len zs := by
  refine ⟨h.1, fun hp => ?_⟩
  obtain ⟨b, off, e, hl, hc⟩ := h.2 hp
  exact ⟨b, off, e, Nat.lt_of_lt_of_le hl hb.size, fun i hi => (hb.cell (p := ⟨b, off + i, none⟩) hl).trans (hc i hi)⟩

def Off (F : Nat → Prop) (ao : Option Addr) : Prop := ∀ a, ao = some a → ¬ F a.block

theorem Wrote.cell {F : Nat → Prop} {w w' : World} (h : Wrote F w w') {p : Addr} (hp : p.block < w.heap.size) (hF : ¬ F p.block) : w'.cell? p = w.cell? p := World.cell?_of_block (w := w) (h.block p.block hp hF)

theorem Reads.off {k : IntKind} {F : Nat → Prop} {w w' : World} {ao : Option Addr} {len : Nat} {zs : List Int} (h : Reads k w ao len zs) (hF : Off F ao) (hb : Wrote F w w') : Reads k w' ao len zs := by
  refine ⟨h.1, fun hp => ?_⟩
  obtain ⟨b, off, e, hl, hc⟩ := h.2 hp
  exact ⟨b, off, e, Nat.lt_of_lt_of_le hl hb.size, fun i hi => (hb.cell (p := ⟨b, off + i, none⟩) hl (show ¬ F b from hF _ e)).trans (hc i hi)⟩

theorem reads_own {k : IntKind} {w : World} {base n : Nat} {e : TypeId} {v : Value} {zs : List Int} (h : w.ownsRow base e 1 v n (zs.map (Value.int k))) : ∃ ao cap, v = .slice ao n cap ∧ Reads k w ao n zs ∧ n ≤ cap ∧ (∀ a, ao = some a → base ≤ a.block) := by
  have hl : zs.length = n := by have := h.1; simpa using this
  have hcs := fun g hg => h.cells (g := g) hg
  rcases h.2 with ⟨rfl, rfl⟩ | ⟨g, cap, cur, rfl, hb, hg, hle, _⟩
  · exact ⟨_, _, rfl, ⟨hl, fun hp => by omega⟩, Nat.le_refl _, fun _ h => by simp at h⟩
  · refine ⟨_, _, rfl, ⟨hl, fun hp => ⟨g, 0, rfl, lt_of_block hg, fun i hi => ?_⟩⟩, hle, fun a ha => by injection ha with ha; subst ha; exact hb⟩
    have := hcs g rfl i (.int k (zs.getD i 0)) (by simp [List.getD, show i < zs.length by omega])
    simpa [Addr.add_lit] using this

theorem reads_src {k : IntKind} {w : World} {A : Option Addr} {n : Nat} {zs : List Int} (h : Reads k w A n zs) : 0 < n → ∃ ad, A = some ad ∧ ∀ j u, (zs.map (Value.int k))[j]? = some u → w.cell? (ad.add j) = some u := by
  intro hp
  obtain ⟨b, off, rfl, _, hc⟩ := h.2 hp
  refine ⟨_, rfl, fun j u hu => ?_⟩
  have hj : j < zs.length := by
    rcases Nat.lt_or_ge j zs.length with h1 | h1
    · exact h1
    · simp [h1] at hu
  rw [Addr.add_lit, hc j (by rw [← h.1]; exact hj), ← hu]
  simp [List.getD, hj]

theorem rowWhole {w : World} {base g n : Nat} {e : TypeId} {xs : List Value} (h : w.ownsRow base e 1 (.slice (some ⟨g, 0, none⟩) n n) n xs) : w.heap[g]? = some (.cells xs.toArray e (0, 0)) := by
  rcases h.2 with ⟨h', _⟩ | ⟨g', cap', cur, h', _, hg, _, _, hcs, htake⟩
  · simp at h'
  · simp only [Value.slice.injEq, Option.some.injEq, Addr.mk.injEq, and_true, true_and] at h'
    obtain ⟨rfl, rfl⟩ := h'
    rw [hg, ← htake, List.take_of_length_le (by simp; omega)]

theorem rowOf {w : World} {base g n : Nat} {e : TypeId} {xs : List Value} (hb : base ≤ g) (hn : xs.length = n) (hm : n ≤ maxLen) (h : w.heap[g]? = some (.cells xs.toArray e (0, 0))) : w.ownsRow base e 1 (.slice (some ⟨g, 0, none⟩) n n) n xs :=
  ⟨by omega, .inr ⟨g, n, xs.toArray, rfl, hb, h, Nat.le_refl _, hm, by simp; omega, by simp [← hn]⟩⟩

theorem own_keep {w w' : World} {base n : Nat} {e : TypeId} {size : Nat} {v : Value} {xs : List Value} (h : w.ownsRow base e size v n xs) (hb : ∀ g, v.ownBlock = some g → w'.heap[g]? = w.heap[g]?) : w'.ownsRow base e size v n xs := by
  refine ⟨h.1, ?_⟩
  rcases h.2 with hn | ⟨g, cap, cur, rfl, hl, hg, r⟩
  · exact .inl hn
  · exact .inr ⟨g, cap, cur, rfl, hl, (hb g rfl).trans hg, r⟩

theorem ownShape {w : World} {base : Nat} {e : TypeId} {size : Nat} {v : Value} {n : Nat} {xs : List Value} (h : w.ownsRow base e size v n xs) : ∃ ao cap, v = .slice ao n cap := by
  rcases h.2 with ⟨rfl, e⟩ | ⟨g, cap, cur, rfl, _⟩
  · exact ⟨none, 0, by rw [e]⟩
  · exact ⟨_, cap, rfl⟩

end Go.Proofs.YtikaoikladbdpaaGreat
namespace Go.Proofs.YtikaoikladbdpaaGreat

def kLe (key : Int → Int) (i j : Int) : Prop := key i < key j ∨ (key i = key j ∧ i ≤ j)
def Srt (key : Int → Int) (l : List Int) : Prop := l.Pairwise (kLe key)

section
variable {key : Int → Int}
theorem kLe.refl (i : Int) : kLe key i i := .inr ⟨rfl, Int.le_refl _⟩
theorem kLe.trans {i j k : Int} (h : kLe key i j) (g : kLe key j k) : kLe key i k := by unfold kLe at *; omega
theorem kLe.antisymm {i j : Int} (h : kLe key i j) (g : kLe key j i) : i = j := by unfold kLe at *; omega
theorem kLe.of_not {i j : Int} (h : ¬ key j < key i) (g : i ≤ j) : kLe key i j := by unfold kLe; omega
theorem kLe.of_lt {i j : Int} (h : key i < key j) : kLe key i j := .inl h

theorem srt_unique {a b : List Int} (ha : Srt key a) (hb : Srt key b) (h : a.Perm b) : a = b :=
  List.Perm.eq_of_pairwise (fun _ _ _ _ h1 h2 => h1.antisymm h2) ha hb h

theorem split_at (l : List Int) {k : Nat} (hk : k < l.length) : l = l.take k ++ l.getD k 0 :: l.drop (k + 1) := by
  have e : l.getD k 0 = l[k] := by simp [List.getD, hk]
  rw [e, ← List.drop_eq_getElem_cons hk, List.take_append_drop]

theorem Srt.take_le {l : List Int} (h : Srt key l) {k : Nat} (hk : k < l.length) : ∀ y ∈ l.take (k + 1), kLe key y (l.getD k 0) := by
  intro y hy
  have e := split_at l hk
  unfold Srt at h
  rw [e, List.pairwise_append] at h
  rw [List.take_succ_eq_append_getElem hk] at hy
  rcases List.mem_append.1 hy with h1 | h1
  · exact h.2.2 y h1 _ List.mem_cons_self
  · have : y = l.getD k 0 := by simpa [List.getD, hk] using h1
    rw [this]; exact .refl _
theorem Srt.drop_ge {l : List Int} (h : Srt key l) {k : Nat} (hk : k < l.length) : ∀ y ∈ l.drop k, kLe key (l.getD k 0) y := by
  intro y hy
  have e := split_at l hk
  unfold Srt at h
  rw [e, List.pairwise_append] at h
  rw [List.drop_eq_getElem_cons hk] at hy
  rcases List.mem_cons.1 hy with h1 | h1
  · have : y = l.getD k 0 := by simpa [List.getD, hk] using h1
    rw [this]; exact .refl _
  · exact (List.pairwise_cons.1 h.2.1).1 y h1

theorem Srt.cross {l r : List Int} (hl : Srt key l) (hr : Srt key r) {s e : Nat} (hs : s ≤ l.length) (he : e ≤ r.length)
    (h : s = 0 ∨ e = r.length ∨ kLe key (l.getD (s - 1) 0) (r.getD e 0)) : ∀ x ∈ l.take s, ∀ y ∈ r.drop e, kLe key x y := by
  intro x hx y hy
  rcases h with h | h | h
  · subst h; simp at hx
  · subst h; simp at hy
  · rcases Nat.eq_zero_or_pos s with h0 | h0
    · subst h0; simp at hx
    · rcases Nat.lt_or_ge e r.length with h1 | h1
      · have a := hl.take_le (k := s - 1) (by omega) x (by rw [show s - 1 + 1 = s by omega]; exact hx)
        exact (a.trans h).trans (hr.drop_ge h1 y hy)
      · rw [List.drop_eq_nil_of_le h1] at hy; simp at hy

theorem Srt.append {a b : List Int} (ha : Srt key a) (hb : Srt key b) (h : ∀ x ∈ a, ∀ y ∈ b, kLe key x y) : Srt key (a ++ b) := List.pairwise_append.2 ⟨ha, hb, h⟩
theorem srt_one (x : Int) : Srt key [x] := List.pairwise_singleton _ _

theorem merged_halves {l r m1 m2 : List Int} {s e : Nat} (hl : Srt key l) (hr : Srt key r) (hs : s ≤ l.length) (he : e ≤ r.length)
    (h1 : s = 0 ∨ e = r.length ∨ kLe key (l.getD (s - 1) 0) (r.getD e 0)) (h2 : e = 0 ∨ s = l.length ∨ kLe key (r.getD (e - 1) 0) (l.getD s 0))
    (p1 : m1.Perm (l.take s ++ r.take e)) (p2 : m2.Perm (l.drop s ++ r.drop e)) (s1 : Srt key m1) (s2 : Srt key m2) : (m1 ++ m2).Perm (l ++ r) ∧ Srt key (m1 ++ m2) := by
  refine ⟨?_, s1.append s2 fun x hx y hy => ?_⟩
  · have e1 : (l.take s ++ r.take e ++ (l.drop s ++ r.drop e)).Perm (l ++ r) := by
      have : (l.take s ++ l.drop s ++ (r.take e ++ r.drop e)) = l ++ r := by simp
      rw [← this, List.append_assoc, List.append_assoc]
      refine List.Perm.append_left _ ?_
      rw [← List.append_assoc, ← List.append_assoc]
      exact List.Perm.append_right _ List.perm_append_comm
    exact (p1.append p2).trans e1
  · have c1 := hl.cross hr hs he h1
    have c2 := hr.cross hl he hs h2
    have pl := hl
    have pr := hr
    unfold Srt at pl pr
    rw [← List.take_append_drop s l, List.pairwise_append] at pl
    rw [← List.take_append_drop e r, List.pairwise_append] at pr
    have hx' := p1.mem_iff.1 hx
    have hy' := p2.mem_iff.1 hy
    rcases List.mem_append.1 hx' with a | a <;> rcases List.mem_append.1 hy' with b | b
    · exact pl.2.2 x a y b
    · exact c1 x a y b
    · exact c2 x a y b
    · exact pr.2.2 x a y b

theorem merged_front {r : List Int} {x : Int} {e : Nat} (hr : Srt key r) (he : e ≤ r.length) (h1 : e = 0 ∨ kLe key (r.getD (e - 1) 0) x) (h2 : e = r.length ∨ kLe key x (r.getD e 0)) :
    (r.take e ++ x :: r.drop e).Perm (x :: r) ∧ Srt key (r.take e ++ x :: r.drop e) := by
  refine ⟨by conv => rhs; rw [← List.take_append_drop e r]
             exact List.perm_middle, ?_⟩
  have c1 := hr.cross (srt_one x) (s := e) (e := 0) he (by simp) (by rcases h1 with h | h; exact .inl h; exact .inr (.inr (by simpa using h)))
  have c2 := (srt_one (key := key) x).cross hr (s := 1) (e := e) (by simp) he (by rcases h2 with h | h; exact .inr (.inl h); exact .inr (.inr (by simpa using h)))
  have pr := hr
  unfold Srt at pr
  rw [← List.take_append_drop e r, List.pairwise_append] at pr
  refine List.pairwise_append.2 ⟨pr.1, List.pairwise_cons.2 ⟨fun y hy => c2 x (by simp) y hy, pr.2.1⟩, fun a ha b hb => ?_⟩
  rcases List.mem_cons.1 hb with h | h
  · subst h; exact c1 a ha b (by simp)
  · exact pr.2.2 a ha b h
end

theorem exch (X Y Z : List Int) (a b : Int) : ((X ++ a :: (Y ++ b :: Z)).set X.length b).set (X.length + 1 + Y.length) a = X ++ b :: (Y ++ a :: Z) := by
  rw [List.set_append_right _ _ (Nat.le_refl _), Nat.sub_self, List.set_cons_zero, List.set_append_right _ _ (by omega)]
  rw [show X.length + 1 + Y.length - X.length = Y.length + 1 by omega, List.set_cons_succ, List.set_append_right _ _ (Nat.le_refl _), Nat.sub_self, List.set_cons_zero]
theorem exch1 (X Z : List Int) (a b : Int) : ((X ++ a :: b :: Z).set X.length b).set (X.length + 1) a = X ++ b :: a :: Z := exch X [] Z a b
theorem exch1' (X Z : List Int) (a b : Int) : ((X ++ a :: b :: Z).set (X.length + 1) a).set X.length b = X ++ b :: a :: Z := by
  rw [List.set_comm _ _ (by omega)]; exact exch1 X Z a b

def blk (bs i : Nat) (l : List Int) : List Int := (l.drop (bs * i)).take bs
def BlkOk (key : Int → Int) (bs i : Nat) (z d : List Int) : Prop := Srt key (blk bs i d) ∧ (blk bs i d).Perm (blk bs i z)

theorem blk_all {bs : Nat} {l : List Int} (h : l.length ≤ bs) : blk bs 0 l = l := by unfold blk; rw [Nat.mul_zero, List.drop_zero]; exact List.take_of_length_le h
theorem blk_none {bs i : Nat} {l : List Int} (h : l.length ≤ bs * i) : blk bs i l = [] := by unfold blk; rw [List.drop_eq_nil_of_le h]; simp
theorem blk_ahead {bs i a : Nat} {l r : List Int} (ha : a = l.length) (h : bs * i + bs ≤ a) : blk bs i (l ++ r) = blk bs i l := by
  unfold blk
  rw [List.drop_append_of_le_length (by omega), List.take_append_of_le_length (by simp; omega)]
theorem blk_behind {bs i : Nat} {l l' r : List Int} (he : l.length = l'.length) (h : l.length ≤ bs * i) : blk bs i (l ++ r) = blk bs i (l' ++ r) := by
  unfold blk
  rw [List.drop_append, List.drop_append, List.drop_eq_nil_of_le h, List.drop_eq_nil_of_le (show l'.length ≤ bs * i by omega), he]
theorem blk_here {bs i : Nat} {p m s : List Int} (hp : p.length = bs * i) (hm : m.length = bs ∨ (m.length ≤ bs ∧ s = [])) : blk bs i (p ++ m ++ s) = m := by
  unfold blk
  rw [List.append_assoc, ← hp, List.drop_left]
  rcases hm with h | ⟨h, rfl⟩
  · rw [← h, List.take_left]
  · rw [List.append_nil]; exact List.take_of_length_le h
theorem blk_two (bs i : Nat) (l : List Int) : blk (2 * bs) i l = blk bs (2 * i) l ++ blk bs (2 * i + 1) l := by
  unfold blk
  rw [show 2 * bs * i = bs * (2 * i) by rw [Nat.mul_comm 2 bs, Nat.mul_assoc], Nat.two_mul bs, List.take_add, List.drop_drop, show bs * (2 * i + 1) = bs * (2 * i) + bs by rw [Nat.mul_add, Nat.mul_one]]

theorem blk_rise {bs i : Nat} {z : List Int} (h : z.Pairwise (· < ·)) : ∀ x ∈ blk bs i z, ∀ y ∈ blk bs (i + 1) z, x < y := by
  intro x hx y hy
  have h1 : (z.drop (bs * i)).Pairwise (· < ·) := List.Pairwise.drop h
  rw [← List.take_append_drop bs (z.drop (bs * i)), List.pairwise_append] at h1
  refine h1.2.2 x hx y ?_
  unfold blk at hy
  rw [List.drop_drop, show bs * i + bs = bs * (i + 1) by rw [Nat.mul_add, Nat.mul_one]]
  exact List.mem_of_mem_take hy

end Go.Proofs.YtikaoikladbdpaaGreat
namespace Go.Proofs.YtikaoikladbdpaaGreat
open Go.RowKit

def IRow (w : World) (g n cap : Nat) (zs : List Int) : Prop := w.ownsRow 0 3 1 (.slice (some ⟨g, 0, none⟩) n cap) n (zs.map (Value.int .i64))

section
variable {w w' : World} {g n cap : Nat} {zs : List Int}
theorem IRow.len (h : IRow w g n cap zs) : zs.length = n := by have := h.1; simpa using this
theorem IRow.cell (h : IRow w g n cap zs) {i : Nat} (hi : i < n) : w.cell? ⟨g, i, none⟩ = some (.int .i64 (zs.getD i 0)) := by
  rw [World.ownsRow.cellAt h i (by omega)]
  have := h.len
  simp [List.getD, show i < zs.length by omega]
theorem IRow.free (h : IRow w g n cap zs) (i : Nat) : w.frozen? ⟨g, i, none⟩ = false := World.ownsRow.frozenAt h i
theorem IRow.set (h : IRow w g n cap zs) (i : Nat) (x : Int) : IRow (w.setCell ⟨g, i, none⟩ (.int .i64 x)) g n cap (zs.set i x) := by
  unfold IRow
  rw [List.map_set]
  exact (World.ownsRow.stored h i _).1
theorem IRow.keep (h : IRow w g n cap zs) (hb : w'.heap[g]? = w.heap[g]?) : IRow w' g n cap zs := own_keep h (fun k hk => by simp only [Value.ownBlock, Option.some.injEq] at hk; subst hk; exact hb)
theorem IRow.drewN (h : IRow w g n cap zs) (q : Nat) : IRow (w.drewN q) g n cap zs := h.keep rfl
theorem IRow.still (h : IRow w g n cap zs) {i j : Nat} (_ : i < n) (hj : j < n) (x : Int) : ∃ u, (w.setCell ⟨g, i, none⟩ (.int .i64 x)).cell? ⟨g, j, none⟩ = some u := ⟨_, (h.set i x).cell hj⟩
theorem IRow.swap (h : IRow w g n cap zs) (i j : Nat) (x y : Int) : IRow ((w.setCell ⟨g, i, none⟩ (.int .i64 x)).setCell ⟨g, j, none⟩ (.int .i64 y)).drew g n cap ((zs.set i x).set j y) := ((h.set i x).set j y).drewN 1

abbrev At1 (g : Nat) : Nat → Prop := fun k => k = g
theorem wrote_swap (w : World) (g i j : Nat) (x y : Value) : Wrote (At1 g) w ((w.setCell ⟨g, i, none⟩ x).setCell ⟨g, j, none⟩ y).drew := (((Wrote.refl (At1 g) w).setCell (q := ⟨g, i, none⟩) (Or.inr rfl) x).setCell (q := ⟨g, j, none⟩) (Or.inr rfl) y).drew

def Rearr (w : World) (g n cap : Nat) (zs : List Int) (e : Ending) (w' : World) : Prop := e = .returned (.tuple #[]) ∧ IRow w' g n cap zs ∧ Wrote (At1 g) w w'
end

theorem getD_at (P R : List Int) (i : Nat) : (P ++ R).getD (P.length + i) 0 = R.getD i 0 := by simp only [List.getD]; rw [List.getElem?_append_right (by omega)]; simp
theorem getD_left (P R : List Int) (i : Nat) (h : i < P.length) : (P ++ R).getD i 0 = P.getD i 0 := by simp only [List.getD]; rw [List.getElem?_append_left h]
theorem getD_head (P R : List Int) (x : Int) : (P ++ x :: R).getD P.length 0 = x := by simp [List.getD]

def cmp3 (a b : Int) : Int := if a < b then -1 else if b < a then 1 else 0
theorem cmp3_lt {a b : Int} (h : a < b) : cmp3 a b < 0 := by unfold cmp3; rw [if_pos h]; omega
theorem cmp3_ge {a b : Int} (h : ¬ a < b) : 0 ≤ cmp3 a b := by unfold cmp3; rw [if_neg h]; split <;> omega

def CmpAt (key : Int → Int) (N : Int) (B g : Nat) (w : World) : Prop :=
  ∀ (W : World) (a b : Int), Wrote (At1 g) w W → 0 ≤ a → a < N → 0 ≤ b → b < N →
    Calls Tryz.prog 235 #[.int .i64 a, .int .i64 b, .pointer (some ⟨B, 0, none⟩)] W fun e w' => e = .returned (.int .i64 (cmp3 (key a) (key b))) ∧ ∃ q, w' = W.drewN q
theorem CmpAt.later {key : Int → Int} {N : Int} {B g : Nat} {w w' : World} (h : CmpAt key N B g w) (hw : Wrote (At1 g) w w') : CmpAt key N B g w' :=
  fun W a b hW => h W a b (hw.trans hW)

end Go.Proofs.YtikaoikladbdpaaGreat
namespace Go.Proofs.YtikaoikladbdpaaGreat
open Go.RowKit

def Tail (w : World) (v : Value) (xs : List Value) : Prop :=
  (v = .slice none 0 0 ∧ xs = []) ∨ ∃ g off cap, v = .slice (some ⟨g, off, none⟩) xs.length cap ∧ g < w.heap.size ∧ xs.length ≤ cap ∧ cap ≤ maxLen ∧
    (∀ j, j < xs.length → w.cell? ⟨g, off + j, none⟩ = xs[j]?) ∧ ∀ j, j < cap → (w.cell? ⟨g, off + j, none⟩).isSome = true ∧ w.frozen? ⟨g, off + j, none⟩ = false

section
variable {w w' : World} {v : Value} {xs : List Value}

theorem Tail.nothing : Tail w (.slice none 0 0) [] := .inl ⟨rfl, rfl⟩
theorem Tail.shape (h : Tail w v xs) : ∃ ao cap, v = .slice ao xs.length cap ∧ xs.length ≤ cap := by
  rcases h with ⟨rfl, rfl⟩ | ⟨g, off, cap, rfl, _, hc, _⟩
  · exact ⟨_, _, rfl, Nat.le_refl _⟩
  · exact ⟨_, _, rfl, hc⟩
theorem Tail.keep (h : Tail w v xs) (hs : w.heap.size ≤ w'.heap.size) (hb : ∀ g, v.ownBlock = some g → w'.heap[g]? = w.heap[g]?) : Tail w' v xs := by
  rcases h with h | ⟨g, off, cap, rfl, hl, hc, hm, hx, hr⟩
  · exact .inl h
  · have e := hb g rfl
    refine .inr ⟨g, off, cap, rfl, Nat.lt_of_lt_of_le hl hs, hc, hm, fun j hj => (World.cell?_of_block (a := ⟨g, off + j, none⟩) e).trans (hx j hj), fun j hj => ?_⟩
    rw [World.cell?_of_block (a := ⟨g, off + j, none⟩) e, World.frozen?_of_block (a := ⟨g, off + j, none⟩) e]
    exact hr j hj
theorem Tail.other (h : Tail w v xs) {p : Addr} (hp : v.ownBlock ≠ some p.block) (u : Value) : Tail (w.setCell p u) v xs :=
  h.keep (by simp [World.setCell]) (fun g hg => Below.heap_setCell _ _ _ _ (by rintro rfl; exact hp hg))

theorem Tail.first {x : Value} (h : Tail w v (x :: xs)) : ∃ g off cap, v = .slice (some ⟨g, off, none⟩) (xs.length + 1) cap ∧ xs.length + 1 ≤ cap ∧ w.cell? ⟨g, off, none⟩ = some x := by
  rcases h with ⟨_, h⟩ | ⟨g, off, cap, rfl, hl, hc, hm, hx, hr⟩
  · cases h
  · exact ⟨g, off, cap, rfl, hc, by simpa using hx 0 (by simp)⟩

theorem Tail.rest {x : Value} {g off cap : Nat} (h : Tail w (.slice (some ⟨g, off, none⟩) (xs.length + 1) cap) (x :: xs)) : Tail w (.slice (if cap = 1 then some ⟨g, off, none⟩ else some ⟨g, off + 1, none⟩) xs.length (cap - 1)) xs := by
  rcases h with ⟨_, h⟩ | ⟨g', off', cap', hv, hl, hc, hm, hx, hr⟩
  · cases h
  · simp only [Value.slice.injEq, Option.some.injEq, Addr.mk.injEq, and_true] at hv
    obtain ⟨⟨rfl, rfl⟩, _, rfl⟩ := hv
    simp only [List.length_cons] at hc hx
    by_cases h1 : cap = 1
    · subst h1
      obtain rfl : xs = [] := List.eq_nil_of_length_eq_zero (by omega)
      rw [if_pos rfl]
      exact .inr ⟨g, off, 0, rfl, hl, by simp, by omega, fun j hj => by simp at hj, fun j hj => by omega⟩
    · rw [if_neg h1]
      refine .inr ⟨g, off + 1, cap - 1, rfl, hl, by omega, by omega, fun j hj => ?_, fun j hj => ?_⟩
      · have := hx (j + 1) (by omega)
        rw [show off + (j + 1) = off + 1 + j by omega] at this
        simpa using this
      · have := hr (j + 1) (by omega)
        rw [show off + (j + 1) = off + 1 + j by omega] at this
        exact this
end

section
variable {P : Program}
end

end Go.Proofs.YtikaoikladbdpaaGreat
namespace Go.Proofs.YtikaoikladbdpaaGreat
open Go.RowKit

theorem infoI32 : (Tryz.prog.info? 21).map (fun i => (i.zero, i.size, i.bytes)) = some (some (.int .i32 0), 1, 4) := by kernel_rfl
theorem sizeI32 : (Tryz.prog.info? 21).map (·.size) = some 1 := by kernel_rfl

def mostOf (n : Int) : Int := if n < 0 then 0 else if 1000 < n then 1000 else n
theorem mostOf_in (n : Int) : 0 ≤ mostOf n ∧ mostOf n ≤ 1000 := by unfold mostOf; split <;> (try split) <;> omega
theorem mostOf_self (n : Int) (h0 : 0 ≤ n) (h1 : n ≤ 1000) : mostOf n = n := by unfold mostOf; rw [if_neg (by omega), if_neg (by omega)]

def RBox (w : World) (g : Nat) (c x : Int) : Prop := w.heap[g]? = some (.cells #[.int .u8 c, .int .i32 x] 74 (0, 0))
section
variable {w : World} {g : Nat} {c x : Int}
theorem RBox.c0 (h : RBox w g c x) : w.cell? ⟨g, 0, none⟩ = some (.int .u8 c) := by unfold RBox at h; simp [World.cell?, h]
theorem RBox.c1 (h : RBox w g c x) : w.cell? ⟨g, 1, none⟩ = some (.int .i32 x) := by unfold RBox at h; simp [World.cell?, h]
theorem RBox.f (h : RBox w g c x) (j : Nat) : w.frozen? ⟨g, j, none⟩ = false := by unfold RBox at h; simp [World.frozen?, h]
theorem RBox.lt (h : RBox w g c x) : g < w.heap.size := lt_of_block h
theorem RBox.set2 (h : RBox w g c x) (c' x' : Int) : RBox ((w.setCell ⟨g, 0, none⟩ (.int .u8 c')).setCell ⟨g, 1, none⟩ (.int .i32 x')) g c' x' := by
  unfold RBox at h ⊢
  rw [heap_setCell_same _ g 1 _ _ _ (heap_setCell_same w g 0 _ _ _ h)]
  rfl
end

section
variable {F : Nat → Prop} {a b : World}
theorem RBox.keep {g : Nat} {c x : Int} (h : RBox a g c x) (hb : Below a.heap.size a b) : RBox b g c x := (hb.block g h.lt).trans h
theorem RBox.off {g : Nat} {c x : Int} (h : RBox a g c x) (hn : ¬ F g) (hw : Wrote F a b) : RBox b g c x := (hw.block g h.lt hn).trans h
theorem RBox.new (w : World) (c x : Int) : RBox (w.alloc (.cells #[.int .u8 c, .int .i32 x] 74)) w.heap.size c x := heap_alloc_new w _

end

theorem Later.not {w : World} {F F' : Nat → Prop} {g : Nat} (l : Later F F' w) (hn : ¬ F g) (hg : g < w.heap.size) : ¬ F' g := fun e => by
  rcases l g e with h | h
  · exact hn h
  · omega

def dqL (most : Int) (zs : List Int) (k x : Int) : List Int :=
  if k = 1 then (if (zs.length : Int) < most then x :: zs else zs) else if k = 2 then (if (zs.length : Int) < most then zs ++ [x] else zs) else if k = 3 then zs.tail else if k = 4 then zs.dropLast else zs
def dqC (most : Int) (zs : List Int) (k : Int) : Int :=
  if k = 1 ∨ k = 2 then (if (zs.length : Int) < most then 1 else 3) else if k = 3 ∨ k = 4 then (if zs = [] then 4 else 2) else 5
def dqV (zs : List Int) (k : Int) : Int := if k = 3 then zs.headD 0 else if k = 4 then zs.getLastD 0 else 0

end Go.Proofs.YtikaoikladbdpaaGreat
namespace Go.Proofs.YtikaoikladbdpaaGreat
open Go.RowKit Go.ChangeShapes Go.WideShapes Go.Deep

def OpsAt (w : World) (ao : Option Addr) (len : Nat) (os : List (Int × Int)) : Prop :=
  os.length = len ∧ (0 < len → ∃ b off, ao = some ⟨b, off, none⟩ ∧ b < w.heap.size ∧ ∀ i, i < len → w.cell? ⟨b, off + i * 2, none⟩ = some (.int .u8 (os.getD i (0, 0)).1) ∧ w.cell? ⟨b, off + i * 2 + 1, none⟩ = some (.int .i32 (os.getD i (0, 0)).2))

theorem OpsAt.keep {w w' : World} {ao : Option Addr} {len : Nat} {os : List (Int × Int)} (h : OpsAt w ao len os) (hb : Below w.heap.size w w') : OpsAt w' ao len os := by
  refine ⟨h.1, fun hp => ?_⟩
  obtain ⟨b, off, e, hl, hc⟩ := h.2 hp
  exact ⟨b, off, e, Nat.lt_of_lt_of_le hl hb.size, fun i hi => ⟨(hb.cell (p := ⟨b, _, none⟩) hl).trans (hc i hi).1, (hb.cell (p := ⟨b, _, none⟩) hl).trans (hc i hi).2⟩⟩

theorem OpsAt.off {F : Nat → Prop} {w w' : World} {ao : Option Addr} {len : Nat} {os : List (Int × Int)} (h : OpsAt w ao len os) (hF : Off F ao) (hb : Wrote F w w') : OpsAt w' ao len os := by
  refine ⟨h.1, fun hp => ?_⟩
  obtain ⟨b, off, e, hl, hc⟩ := h.2 hp
  have hn : ¬ F b := hF _ e
  exact ⟨b, off, e, Nat.lt_of_lt_of_le hl hb.size, fun i hi => ⟨(hb.cell (p := ⟨b, _, none⟩) hl hn).trans (hc i hi).1, (hb.cell (p := ⟨b, _, none⟩) hl hn).trans (hc i hi).2⟩⟩

def OpOk (o : Int × Int) : Prop := (0 ≤ o.1 ∧ o.1 ≤ 255) ∧ (-2147483648 ≤ o.2 ∧ o.2 ≤ 2147483647)

def ArgBytes (w : World) (ao : Option Addr) (len cap : Nat) (zs : List Int) : Prop := Reads .u8 w ao len zs ∧ len ≤ cap ∧ len ≤ maxLen ∧ ∀ z ∈ zs, 0 ≤ z ∧ z ≤ 255
theorem openNums {k : IntKind} {t e : TypeId} {H : Type} {enc : TypeId × Value → H} {W : World} {a : Option Addr} {len cap : Nat} {d : DataW H} {ps : List MemPlace} (ht : Tryz.prog.underlying t = some (.slice e)) (he : Tryz.prog.underlying e = some (.int k)) (hc : Tryz.prog.cellsOf e = 1)
    (h : DataW.Trod enc Tryz.prog W 0 (fun _ => true) true t (.slice a len cap) d ps) : ∃ zs, Reads k W a len zs ∧ len ≤ cap ∧ len ≤ maxLen ∧ ∀ z ∈ zs, (Lit.int k z).wf = true := by
  obtain ⟨fuel, hf⟩ := h
  rcases open_ints ht he hc hf with ⟨hcs, _⟩ | ⟨x, l, c, zs, hcs, _, hl, hm, hz, _, hcell, hwz⟩
  · simp [Value.cells] at hcs
    obtain ⟨rfl, rfl, rfl⟩ := hcs
    exact ⟨[], ⟨rfl, fun h => by omega⟩, by omega, by simp [maxLen], by simp⟩
  · simp [Value.cells] at hcs
    obtain ⟨rfl, rfl, rfl⟩ := hcs
    simp only [if_true] at hz
    refine ⟨zs.take len, ⟨by simp; omega, fun hp => ?_⟩, by omega, by omega, fun n hn => hwz n (List.mem_of_mem_take hn)⟩
    obtain ⟨b, off, spot⟩ := x
    have hspot : spot = none := by simpa [Addr.add] using World.cell?_spot (hcell 0 (by omega))
    subst hspot
    refine ⟨b, off, rfl, World.block_lt_of_cell? W _ (hcell 0 (by omega)), fun i hi => ?_⟩
    have := hcell i (by omega)
    rw [Addr.add_lit] at this
    rw [this]
    simp [List.getD, hi]

theorem openBytes {H : Type} {enc : TypeId × Value → H} {W : World} {a : Option Addr} {len cap : Nat} {d : DataW H} {ps : List MemPlace}
    (h : DataW.Trod enc Tryz.prog W 0 (fun _ => true) true 26 (.slice a len cap) d ps) : ∃ zs, ArgBytes W a len cap zs := by
  obtain ⟨zs, h1, h2, h3, h4⟩ := openNums Tryz.underlying26 Tryz.underlying5 (by kernel_rfl) h
  exact ⟨zs, h1, h2, h3, fun z hz => bounds_u8 (h4 z hz)⟩

theorem bytes_u8 : Tryz.prog.bytesOf 5 = 1 := by kernel_rfl
theorem openShape {t e : TypeId} {H : Type} {enc : TypeId × Value → H} {W : World} {a : Option Addr} {len cap : Nat} {d : DataW H} {ps : List MemPlace} (ht : Tryz.prog.underlying t = some (.slice e))
    (h : DataW.Trod enc Tryz.prog W 0 (fun _ => true) true t (.slice a len cap) d ps) : len = 0 ∨ ∃ el sp, d = .slice el sp ∧ el.length = len := by
  obtain ⟨fuel, hf⟩ := h
  rcases open_slice ht hf with ⟨hcs, _⟩ | ⟨x, l, c, m, n, D, Pl, hcs, _, _, _, _, hx, _⟩
  · simp [Value.cells] at hcs
    exact .inl hcs.2.1
  · simp [Value.cells] at hcs
    obtain ⟨rfl, rfl, rfl⟩ := hcs
    simp only [Prod.mk.injEq] at hx
    exact .inr ⟨_, _, hx.1, by simp⟩

theorem reachLen {H : Type} {ts : List TypeId} {ds : List (DataW H)} (hsz : (DataW.weightsEach Tryz.prog ts ds).all (· ≤ reachBytes) = true) {j : Nat} {t e : TypeId} {d : DataW H} {len : Nat} (ht : ts[j]? = some t) (hd : ds[j]? = some d) (hu : Tryz.prog.underlying t = some (.slice e)) (hb : 1 ≤ Tryz.prog.bytesOf e)
    (h : len = 0 ∨ ∃ el sp, d = .slice el sp ∧ el.length = len) : len ≤ 140737488351232 := by
  rcases h with rfl | ⟨el, sp, rfl, rfl⟩
  · omega
  · have h1 := sized_slice hsz ht hd hu
    have h2 : el.length + sp.length ≤ (el.length + sp.length) * Tryz.prog.bytesOf e := Nat.le_mul_of_pos_right _ hb
    have h3 : reachBytes < 2 ^ 47 := reachBytes_lt
    simp only [reachBytes] at h1
    omega

end Go.Proofs.YtikaoikladbdpaaGreat
namespace Go.Proofs.YtikaoikladbdpaaGreat
open Go.RowKit

theorem isNaNAny (x : Int) (w : World) : Calls Tryz.prog 243 #[.int .i32 x] w fun e w' => e = .returned (.bool false) ∧ w = w' := by
  go_enter Tryz.func243, Tryz.ntmps243
  go_wp2
  go_ret
  exact ⟨rfl, rfl⟩

set_option maxRecDepth 100000 in
set_option maxHeartbeats 1600000 in
theorem compareAny (x y : Int) (w : World) : Calls Tryz.prog 236 #[.int .i32 x, .int .i32 y] w fun e w' => e = .returned (.int .i64 (cmp3 x y)) ∧ w' = w := by
  rcases (show x < y ∨ y < x ∨ x = y from by omega) with h | h | h
  · have HE := Lib.hid (show cmp3 x y = -1 by unfold cmp3; rw [if_pos h])
    go_enter Tryz.func236, Tryz.ntmps236
    go_wp2_with (go_at_call 243; refine (isNaNAny _ _).mono ?_; rintro e w' ⟨rfl, rfl⟩)
    go_ret
    exact ⟨by rw [HE.out]; rfl, rfl⟩
  · have HE := Lib.hid (show cmp3 x y = 1 by unfold cmp3; rw [if_neg (by omega), if_pos h])
    have h2 : ¬ x < y := by omega
    go_enter Tryz.func236, Tryz.ntmps236
    go_wp2_with (go_at_call 243; refine (isNaNAny _ _).mono ?_; rintro e w' ⟨rfl, rfl⟩)
    go_ret
    exact ⟨by rw [HE.out]; rfl, rfl⟩
  · subst h
    have HE := Lib.hid (show cmp3 x x = 0 by unfold cmp3; rw [if_neg (by omega), if_neg (by omega)])
    go_enter Tryz.func236, Tryz.ntmps236
    go_wp2_with (go_at_call 243; refine (isNaNAny _ _).mono ?_; rintro e w' ⟨rfl, rfl⟩)
    go_ret
    exact ⟨by rw [HE.out]; rfl, rfl⟩

def keyOf (os : List (Int × Int)) (i : Int) : Int := (os.getD i.toNat (0, 0)).2

def keyF (O : Nat) : Value := .func (.func 225) #[] #[.pointer (some ⟨O, 0, none⟩)]

set_option maxRecDepth 100000 in
set_option maxHeartbeats 1600000 in
theorem keyAny (os : List (Int × Int)) (W : World) (O : Nat) (ao : Option Addr) (n cap : Nat) (a : Int) (hO : W.cell? ⟨O, 0, none⟩ = some (.slice ao n cap)) (ho : OpsAt W ao n os) (a0 : 0 ≤ a) (a1 : a < n) :
    Calls Tryz.prog 225 #[.int .i64 a, .pointer (some ⟨O, 0, none⟩)] W fun e w' => e = .returned (.int .i32 (keyOf os a)) ∧ w' = W := by
  obtain ⟨i, hi⟩ : ∃ i, a.toNat = i := ⟨_, rfl⟩
  obtain ⟨g, off, rfl, gl, hc⟩ := ho.2 (by omega)
  have c1 := (hc i (by omega)).2
  unfold keyOf
  rw [hi]
  clear hc ho
  generalize (os.getD i (0, 0)).2 = x at *
  go_enter Tryz.func225, Tryz.ntmps225
  go_wp2
  go_ret
  exact ⟨rfl, rfl⟩

set_option maxRecDepth 100000 in
set_option maxHeartbeats 1600000 in
theorem closAny (os : List (Int × Int)) (W : World) (B O : Nat) (ao : Option Addr) (n cap : Nat) (a b : Int) (hB : W.cell? ⟨B, 0, none⟩ = some (keyF O)) (hO : W.cell? ⟨O, 0, none⟩ = some (.slice ao n cap)) (ho : OpsAt W ao n os) (a0 : 0 ≤ a) (a1 : a < n) (b0 : 0 ≤ b) (b1 : b < n) :
    Calls Tryz.prog 235 #[.int .i64 a, .int .i64 b, .pointer (some ⟨B, 0, none⟩)] W fun e w' => e = .returned (.int .i64 (cmp3 (keyOf os a) (keyOf os b))) ∧ ∃ q, w' = W.drewN q := by
  have K := fun q x hx0 hx1 => keyAny os (W.drewN q) O ao n cap x hO (ho.keep ⟨rfl, rfl, rfl, Nat.le_refl _, fun _ _ => rfl⟩) hx0 hx1
  have KA := fun q => Calls.quiet_of_same (K q a a0 a1)
  have KB := fun q => Calls.quiet_of_same (K q b b0 b1)
  unfold keyF at hB
  clear ho hO K
  generalize keyOf os a = x at *
  generalize keyOf os b = y at *
  go_enter Tryz.func235, Tryz.ntmps235
  go_wp2_with fail
  go_quiet (first | (go_at_call 236; exact Calls.quiet_of_same (compareAny _ _ _)) | exact KA _ | exact KB _)
  go_wp2
  go_ret
  exact ⟨rfl, _, rfl⟩

end Go.Proofs.YtikaoikladbdpaaGreat
