/-
  The calls of package cells where only the number of cells and the steps are looked at. Conditions: a memory as MemL says; steps below a million. The chapter's example (reaperlaw13.known) is told; and a call on a memory of records where only their number is looked at. Conditions: none. A record, a result, equals itself; the word of what is told tells it. Conditions: none. What a call on a memory leaves of all blocks that are neither a memory nor a list of int64: it is as it was. Conditions: a memory as Mem1 says; steps below a million. A memory beside a list of int64 of one's own that is not the memory's own row; numbers set one behind the other. Conditions: a memory as Mem says. What the document's own records (package reaperref13) tell: Base, Open, Many, Nth, See; each makes new memory alone. Conditions: at most 1000 cells. What the document's own See and Open (package reaperref13) tell; each makes new memory alone. Conditions: at most 1000 cells. A memory that is filled number by number beside the document's one (reaperlaw13.Memory): both hold the numbers that came in. Conditions: at most 200 numbers. A memory that is filled number by number beside the document's one (reaperlaw13.Memory). Conditions: at most 200 numbers. A memory and the document's one side by side, their lists apart: kept by what makes new blocks, by a call on one of them, by what writes to a box of its own. Conditions: none; no Go function is looked at here.
-/
import Derived.Test.YtfnjbbokbdddpaaG0217
import Derived.Deep.RegionHeld3
import Derived.Deep.CutRange
namespace Go.Proofs.Ytfnjbbokbdddpaa.M2
open Go.RowKit

section
variable {w : World} {B p n : Nat} {size st : Int}
end

section
variable {w : World} {B p n : Nat} {size st : Int}
end

end Go.Proofs.Ytfnjbbokbdddpaa.M2
namespace Go.Proofs.Ytfnjbbokbdddpaa.M2
open Go.RowKit

section
variable {w : World} {B p n : Nat} {size st : Int}
end

end Go.Proofs.Ytfnjbbokbdddpaa.M2
namespace Go.Proofs.Ytfnjbbokbdddpaa.M2
open Go.RowKit

end Go.Proofs.Ytfnjbbokbdddpaa.M2
namespace Go.Proofs.Ytfnjbbokbdddpaa.M2
open Go.RowKit

def Kept (w w' : World) : Prop := ∀ (N : Nat) (cs : Array Value) (t : TypeId), w.heap[N]? = some (Obj.cells cs t (0, 0)) → t ≠ 2 → t ≠ 84 → w'.heap[N]? = some (Obj.cells cs t (0, 0))

theorem Did.kept {w w' : World} {B p : Nat} {v : Value} {size size' : Int} {zs zs' : List Int} {st st' : Int} (m : Mem w B p v size zs st) (d : Did B p v size' zs' st' w w') : Kept w w' := by
  obtain ⟨v', _, wr, _⟩ := d
  intro N cs t e h1 h2
  refine (wr.block N (lt_of_block e) ?_ ?_).trans e
  · rintro rfl
    have := m.block
    rw [e] at this
    simp only [Option.some.injEq, Obj.cells.injEq] at this
    exact h2 this.2.1
  · intro hv
    rcases m.own.2 with ⟨rfl, _⟩ | ⟨g, cap, cur, rfl, _, hg, _⟩
    · simp [Value.ownBlock] at hv
    · simp only [Value.ownBlock, Option.some.injEq] at hv
      subst hv
      rw [e] at hg
      simp only [Option.some.injEq, Obj.cells.injEq] at hg
      exact h1 hg.2.1

section
variable {w : World} {B p : Nat} {size : Int} {zs : List Int} {st : Int}
end

end Go.Proofs.Ytfnjbbokbdddpaa.M2
namespace Go.Proofs.Ytfnjbbokbdddpaa.M2
open Go.RowKit

theorem getD_set (zs : List Int) (i j : Nat) (x : Int) : (zs.set i x).getD j 0 = if i = j ∧ i < zs.length then x else zs.getD j 0 := by
  simp only [List.getD, List.getElem?_set]
  by_cases h : i = j
  · subst h
    by_cases h2 : i < zs.length
    · simp [h2]
    · simp [h2]
  · simp [h]

def setN (zs : List Int) (b : Nat) (vs : List Int) : Nat → List Int
  | 0 => zs
  | i + 1 => (setN zs b vs i).set (b + i) (vs.getD i 0)

theorem setN_length (zs : List Int) (b : Nat) (vs : List Int) (i : Nat) : (setN zs b vs i).length = zs.length := by
  induction i with
  | zero => rfl
  | succ i ih => simp [setN, ih]

theorem setN_at (zs : List Int) (b : Nat) (vs : List Int) (i t : Nat) (ht : t < i) (hb : b + i ≤ zs.length) : (setN zs b vs i).getD (b + t) 0 = vs.getD t 0 := by
  induction i with
  | zero => omega
  | succ i ih =>
    rw [setN, getD_set, setN_length]
    by_cases h : t = i
    · subst h
      rw [if_pos (by omega)]
    · rw [if_neg (by omega)]
      exact ih (by omega) (by omega)

section
variable {w : World} {B p g : Nat} {size : Int} {zs : List Int} {st : Int}
end

end Go.Proofs.Ytfnjbbokbdddpaa.M2
namespace Go.Proofs.Ytfnjbbokbdddpaa.M2
open Go.RowKit

section
variable {w : World} {B : Nat} {u : Value} {size : Int} {zs : List Int} {st : Int}

end

end Go.Proofs.Ytfnjbbokbdddpaa.M2
namespace Go.Proofs.Ytfnjbbokbdddpaa.M2
open Go.RowKit

section
variable {w : World} {B : Nat} {u : Value} {size : Int} {zs : List Int} {st : Int}

end

end Go.Proofs.Ytfnjbbokbdddpaa.M2
namespace Go.Proofs.Ytfnjbbokbdddpaa.M2
open Go.RowKit

theorem setN_all (zs : List Int) : setN (List.replicate zs.length 0) 0 zs zs.length = zs := by
  apply List.ext_getElem
  · rw [setN_length, List.length_replicate]
  · intro i h1 h2
    have := setN_at (List.replicate zs.length 0) 0 zs zs.length i h2 (by simp)
    rw [Nat.zero_add] at this
    simpa [List.getD, h1, h2] using this

theorem cellKept {w : World} {a : Addr} {u : Value} (h : w.cell? a = some u) (o : Obj) : (w.alloc o).cell? a = some u := by
  have hl := World.block_lt_of_cell? w _ h
  rw [← h]
  exact World.cell?_of_block (Below.heap_alloc _ _ _ hl)

structure BM (w : World) (rb p : Nat) (v u : Value) (size : Int) (zs : List Int) (st : Int) (ys : List Int) (sd : Int) (wr : World) : Prop where
  m : Mem wr w.heap.size p v size zs st
  o : wr.ownsRow w.heap.size 2 1 u ys.length (ys.map (Value.int .i64))
  n : ∀ g, u.ownBlock = some g → v.ownBlock ≠ some g
  r : Boxed wr rb (.int .i64 size) u (.int .i64 sd)
  t : Boxed wr w.heap.size (.int .i64 0) (.slice none 0 0) (.int .i64 0)
  l : w.heap.size < rb
  b : Below w.heap.size w wr

section
variable {w : World} {rb p : Nat} {v u : Value} {size : Int} {zs ys : List Int} {st sd : Int}

theorem BM.fresh {a b : World} (h : BM w rb p v u size zs st ys sd a) (hb : Below a.heap.size a b) : BM w rb p v u size zs st ys sd b :=
  ⟨h.m.fresh hb, own_keep h.o hb, h.n, h.r.keep hb, h.t.keep hb, h.l, h.b.trans (hb.mono h.b.size)⟩

theorem BM.did {a w' : World} {zs' : List Int} {st' : Int} (h : BM w rb p v u size zs st ys sd a) (d : Did w.heap.size p v size zs' st' a w') : ∃ v', BM w rb p v' u size zs' st' ys sd w' := by
  obtain ⟨v', m', wr, lt⟩ := d
  have bx : ∀ {N : Nat} {x y z : Value}, Boxed a N x y z → Boxed w' N x y z := fun {N x y z} hx => by
    refine (wr.block N hx.lt ?_ (own_ne_boxed h.m.own hx)).trans hx
    rintro rfl
    have e1 := h.m.block
    unfold Boxed at hx
    rw [hx] at e1
    simp at e1
  refine ⟨v', m', ⟨h.o.1, ?_⟩, ?_, bx h.r, bx h.t, h.l, h.b.trans (wr.below h.b.size h.m.low (fun g hg => (h.m.rowLt hg).1))⟩
  · rcases h.o.2 with hn | ⟨g, cap, cur, rfl, hb, hg, r⟩
    · exact .inl hn
    · refine .inr ⟨g, cap, cur, rfl, hb, (wr.block g (lt_of_block hg) ?_ (h.n g rfl)).trans hg, r⟩
      rintro rfl
      have e1 := h.m.block
      rw [hg] at e1
      simp at e1
  · intro g hg e
    rcases lt g e with h1 | h1
    · exact h.n g hg h1
    · have := (h.o.lt g hg).2
      omega

theorem BM.store {a : World} (h : BM w rb p v u size zs st ys sd a) (x y : Int) (h0 : 0 ≤ x) (h1 : x < zs.length) (k0 : 0 ≤ st) (k1 : st < 1000000) :
    Calls Try.prog 36 #[.pointer (some ⟨p, 0, none⟩), .int .i64 x, .int .i64 y] a fun e w' => e = .returned (.int .u16 0) ∧ ∃ v', BM w rb p v' u size (zs.set x.toNat y) (st + 1) ys sd w' :=
  (storeIn h.m x y h0 h1 k0 k1).mono fun _ _ ⟨he, d⟩ => ⟨he, h.did d⟩

theorem BM.alloc {a : World} (h : BM w rb p v u size zs st ys sd a) (m : Nat) (hm : (m : Int) ≤ size - zs.length) (k0 : 0 ≤ st) (k1 : st < 1000000) :
    Calls Try.prog 35 #[.pointer (some ⟨p, 0, none⟩), .int .i64 (m : Int)] a fun e w' => e = .returned (.tuple #[.int .i64 (zs.length : Int), .int .u16 0]) ∧ ∃ v', BM w rb p v' u size (zs ++ List.replicate m 0) (st + 1) ys sd w' :=
  (allocOk h.m m hm k0 k1).mono fun _ _ ⟨he, d⟩ => ⟨he, h.did d⟩

structure AF (w : World) (rb p nb : Nat) (v u u2 : Value) (size : Int) (zs : List Int) (st : Int) (ys ys2 : List Int) (sd : Int) (wr : World) : Prop where
  h : BM w rb p v u size zs st ys sd wr
  o2 : wr.ownsRow w.heap.size 2 1 u2 ys2.length (ys2.map (Value.int .i64))
  n2 : ∀ g, u2.ownBlock = some g → v.ownBlock ≠ some g
  r2 : Boxed wr nb (.int .i64 size) u2 (.int .i64 (sd + 1))
  l2 : nb ≠ rb

theorem AF.a {a b : World} (h : BM w rb p v u size zs st ys sd a) {ys2 : List Int} {u2 : Value} (hl : Left a w.heap.size u ys2 u2 b) :
    AF w rb p b.heap.size v u u2 size zs st ys ys2 sd (b.alloc (.cells #[.int .i64 size, u2, .int .i64 (sd + 1)] 39)) := by
  obtain ⟨o2, lt, bl⟩ := hl
  have hb := bl.alloc bl.size (.cells #[.int .i64 size, u2, .int .i64 (sd + 1)] 39)
  refine ⟨h.fresh hb, o2.alloc _, ?_, Boxed.new _ _ _ _, ?_⟩
  · intro g hg e
    rcases lt g hg with h1 | h1
    · exact h.n g h1 e
    · have := (h.m.rowLt e).2
      omega
  · have := h.r.lt
    have := bl.size
    omega

theorem AF.b {a c b : World} (h : BM w rb p v u size zs st ys sd a) (hc : a.alloc (.cells #[.int .i64 0, .slice none 0 0, .int .i64 0] 39) = c) {ys2 : List Int} {u2 : Value} (hl : Left c w.heap.size u ys2 u2 b) :
    AF w rb p a.heap.size v u u2 size zs st ys ys2 sd (((b.setCell ⟨a.heap.size, 0, none⟩ (.int .i64 size)).setCell ⟨a.heap.size, 1, none⟩ u2).setCell ⟨a.heap.size, 2, none⟩ (.int .i64 (sd + 1))) := by
  subst hc
  obtain ⟨o2, lt, bl⟩ := hl
  have hz : Boxed b a.heap.size (.int .i64 0) (.slice none 0 0) (.int .i64 0) := (Boxed.new a _ _ _).keep bl
  have ne := own_ne_boxed o2 hz
  have hab : Below a.heap.size a b := ((Below.refl a.heap.size a).alloc (Nat.le_refl _) (.cells #[.int .i64 0, .slice none 0 0, .int .i64 0] 39)).trans (bl.mono (by simp))
  have hs : a.heap.size < (a.alloc (.cells #[.int .i64 0, .slice none 0 0, .int .i64 0] 39)).heap.size := by simp
  refine ⟨h.fresh (((hab.setCell (Nat.le_refl _) _).setCell (Nat.le_refl _) _).setCell (Nat.le_refl _) _), ownsRow_setCell_other (ownsRow_setCell_other (ownsRow_setCell_other o2 ne _) ne _) ne _, ?_, ((hz.set0 _).set1 _).set2 _, ?_⟩
  · intro g hg e
    rcases lt g hg with h1 | h1
    · exact h.n g h1 e
    · have := (h.m.rowLt e).2
      omega
  · have := h.r.lt
    omega

theorem AF.turn {nb : Nat} {u2 : Value} {ys2 : List Int} {a : World} (h : AF w rb p nb v u u2 size zs st ys ys2 sd a) :
    BM w rb p v u2 size zs st ys2 (sd + 1) (((a.setCell ⟨rb, 0, none⟩ (.int .i64 size)).setCell ⟨rb, 1, none⟩ u2).setCell ⟨rb, 2, none⟩ (.int .i64 (sd + 1))) := by
  obtain ⟨⟨m, o, n, r, t, l, b⟩, o2, n2, r2, l2⟩ := h
  have hp : rb ≠ p := by
    rintro rfl
    have e1 := m.block
    unfold Boxed at r
    rw [r] at e1
    simp at e1
  have hv := own_ne_boxed m.own r
  have hu := own_ne_boxed o2 r
  refine ⟨((m.setOther (q := ⟨rb, 0, none⟩) hp hv _).setOther (q := ⟨rb, 1, none⟩) hp hv _).setOther (q := ⟨rb, 2, none⟩) hp hv _, ownsRow_setCell_other (ownsRow_setCell_other (ownsRow_setCell_other o2 hu _) hu _) hu _, n2, ((r.set0 _).set1 _).set2 _, ?_, l, ((b.setCell (by simp; omega) _).setCell (by simp; omega) _).setCell (by simp; omega) _⟩
  have e : rb ≠ w.heap.size := by omega
  exact ((t.other (q := ⟨rb, 0, none⟩) e _).other (q := ⟨rb, 1, none⟩) e _).other (q := ⟨rb, 2, none⟩) e _
end

end Go.Proofs.Ytfnjbbokbdddpaa.M2
namespace Go.Proofs.Ytfnjbbokbdddpaa.M2
open Go.RowKit

def MemoRel (w : World) (rb p : Nat) (zs : List Int) (iv : Value) (wr : World) : Prop :=
  ∃ (k : Nat) (v u : Value), k ≤ zs.length ∧ iv = .int .i64 k ∧ BM w rb p v u zs.length (setN (List.replicate zs.length 0) 0 zs k) (1 + k) (setN (List.replicate zs.length 0) 0 zs k) (1 + k) wr

theorem sizeOf'_self (n : Nat) (h : n ≤ 200) : sizeOf' (n : Int) = (n : Int) := by unfold sizeOf'; rw [if_neg (by omega), if_neg (by omega)]

theorem other3 {w : World} {N M j : Nat} (h : M ≠ N) {v : Value} (x : w.cell? ⟨M, j, none⟩ = some v) (a b c : Value) : (((w.setCell ⟨N, 0, none⟩ a).setCell ⟨N, 1, none⟩ b).setCell ⟨N, 2, none⟩ c).cell? ⟨M, j, none⟩ = some v :=
  cellOther _ h (cellOther _ h (cellOther _ h x))

theorem other3d {w : World} {N M j : Nat} (h : M ≠ N) {v : Value} (x : w.cell? ⟨M, j, none⟩ = some v) (a b c : Value) : ((((w.setCell ⟨N, 0, none⟩ a).setCell ⟨N, 1, none⟩ b).setCell ⟨N, 2, none⟩ c).drew).cell? ⟨M, j, none⟩ = some v :=
  other3 h x a b c

end Go.Proofs.Ytfnjbbokbdddpaa.M2
namespace Go.Proofs.Ytfnjbbokbdddpaa.M2
open Go.RowKit

structure DM (w : World) (p : Nat) (v u : Value) (size : Int) (zs : List Int) (st : Int) (ys : List Int) (wr : World) : Prop where
  m : Mem wr w.heap.size p v size zs st
  o : wr.ownsRow w.heap.size 2 1 u ys.length (ys.map (Value.int .i64))
  n : ∀ g, u.ownBlock = some g → v.ownBlock ≠ some g
  b : Below w.heap.size w wr

section
variable {w : World} {p : Nat} {v u : Value} {size : Int} {zs ys : List Int} {st : Int}

theorem DM.fresh {a b : World} (h : DM w p v u size zs st ys a) (hb : Below a.heap.size a b) : DM w p v u size zs st ys b :=
  ⟨h.m.fresh hb, own_keep h.o hb, h.n, h.b.trans (hb.mono h.b.size)⟩

theorem DM.did {a w' : World} {zs' : List Int} {st' : Int} (h : DM w p v u size zs st ys a) (d : Did w.heap.size p v size zs' st' a w') : ∃ v', DM w p v' u size zs' st' ys w' := by
  obtain ⟨v', m', wr, lt⟩ := d
  refine ⟨v', m', ⟨h.o.1, ?_⟩, ?_, h.b.trans (wr.below h.b.size h.m.low (fun g hg => (h.m.rowLt hg).1))⟩
  · rcases h.o.2 with hn | ⟨g, cap, cur, rfl, hb, hg, r⟩
    · exact .inl hn
    · refine .inr ⟨g, cap, cur, rfl, hb, (wr.block g (lt_of_block hg) ?_ (h.n g rfl)).trans hg, r⟩
      rintro rfl
      have e1 := h.m.block
      rw [hg] at e1
      simp at e1
  · intro g hg e
    rcases lt g e with h1 | h1
    · exact h.n g hg h1
    · have := (h.o.lt g hg).2
      omega

theorem DM.left {a b : World} {ys' : List Int} {u' : Value} (h : DM w p v u size zs st ys a) (l : Left a w.heap.size u ys' u' b) : DM w p v u' size zs st ys' b := by
  obtain ⟨o', lt, bl⟩ := l
  refine ⟨h.m.fresh bl, o', fun g hg e => ?_, h.b.trans (bl.mono h.b.size)⟩
  rcases lt g hg with h1 | h1
  · exact h.n g h1 e
  · have := (h.m.rowLt e).2
    omega

theorem DM.other {a b : World} {g : Nat} {cs : Array Value} {ty : TypeId} (h : DM w p v u size zs st ys a) (hg : a.heap[g]? = some (.cells cs ty (0, 0))) (h1 : ty ≠ 2) (h2 : ty ≠ 84) (hk : ∀ k, k ≠ g → b.heap[k]? = a.heap[k]?) (hb : Below w.heap.size w b) : DM w p v u size zs st ys b := by
  have row : ∀ {B : Nat} {x : Value} {n : Nat} {xs : List Value} {g' : Nat}, a.ownsRow B 2 1 x n xs → x.ownBlock = some g' → g' ≠ g := by
    rintro B x n xs g' ho hx rfl
    rcases ho.2 with ⟨rfl, _⟩ | ⟨g2, cap, cur, rfl, _, hg2, _⟩
    · simp [Value.ownBlock] at hx
    · simp only [Value.ownBlock, Option.some.injEq] at hx
      subst hx
      rw [hg] at hg2
      simp only [Option.some.injEq, Obj.cells.injEq] at hg2
      exact h1 hg2.2.1
  refine ⟨h.m.keep (hk p ?_) (fun g' hg' => hk g' (row h.m.own hg')), _root_.Go.Proofs.Ytfnjbbokbdddpaa.own_keep h.o (fun g' hg' => hk g' (row h.o hg')), h.n, hb⟩
  rintro rfl
  have e1 := h.m.block
  rw [hg] at e1
  simp only [Option.some.injEq, Obj.cells.injEq] at e1
  exact h2 e1.2.1
end

end Go.Proofs.Ytfnjbbokbdddpaa.M2
