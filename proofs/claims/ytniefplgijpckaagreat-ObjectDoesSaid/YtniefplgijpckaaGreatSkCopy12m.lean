/-
  What Copy of package skip makes: a list of its own with the same items, at every list and at nil. Conditions: a list as Skip says.
-/
import Derived.Test.YtniefplgijpckaaGreatSkD12
namespace Go.Proofs.YtniefplgijpckaaGreat
open Go.RowKit Go.Shelf

attribute [local go_sem] Oper.semAt_some

theorem Bod.cells {W : World} {p : Nat} {many most : Int} {ns : List Nd} (h : Bod W p many most ns) {g : Nat} (hg : InF p ns g) : ∃ o : Obj, W.heap[g]? = some o ∧ o.isCells = true := by
  rcases List.mem_cons.1 hg with e | e
  · obtain ⟨cs', hc, _⟩ := h.hd
    rw [e]; exact ⟨_, hc, rfl⟩
  · obtain ⟨n, hn, rfl⟩ := List.mem_map.1 e
    obtain ⟨cs', hc, _⟩ := h.tow n hn
    exact ⟨_, hc, rfl⟩

theorem Bod.keeps {W W' : World} {p : Nat} {many most : Int} {ns : List Nd} (h : Bod W p many most ns) (hw : Wrote (InF p ns) W W') : KeepsOthers W W' :=
  ⟨hw.size, fun k o hk ho => (hw.block k (Array.getElem?_eq_some_iff.1 hk).1 fun e => by
    obtain ⟨o', h1, h2⟩ := h.cells e
    rw [hk] at h1; cases h1; rw [ho] at h2; cases h2).trans hk⟩

/-- What holds between two rounds of Copy: the first k items are there, in new memory. -/
def CopyInv (w : World) (q : Nat) (most : Int) (B3 B4 bh p : Nat) (ns : List Nd) (k : Nat) (W : World) : Prop :=
  ∃ ms : List Nd, Bod W q k most ms ∧ itsOf ms = (itsOf ns).take k ∧ (∀ g, InF q ms g → w.heap.size ≤ g) ∧ PBox W B4 (pos q ms) ∧
    Boxed W B3 97 (.pointer (some ⟨q, 0, none⟩)) ∧ Boxed W bh 117 (.pointer (some ⟨p, 0, none⟩)) ∧ Boxed W (bh + 1) 3 (.int .i64 0) ∧ Below w.heap.size w W

theorem CopyInv.own {w : World} {q : Nat} {most : Int} {B3 B4 bh p : Nat} {ns : List Nd} {n : Nat} (hn : w.heap.size ≤ n) : OwnFrom n (CopyInv w q most B3 B4 bh p ns) := fun k W W' row h hg hr => by
  obtain ⟨ms, h1, h2, h3, h4, h5, h6, h7, h8⟩ := h
  have hne : ∀ (b : Nat) (o : Obj), W.heap[b]? = some o → o.isCells = true → W'.heap[b]? = W.heap[b]? := fun b o ho hc => hg.block b (Array.getElem?_eq_some_iff.1 ho).1 fun e => by
    obtain ⟨_, o', ho', hc'⟩ := hr b e.symm
    rw [ho] at ho'; cases ho'; rw [hc] at hc'; cases hc'
  refine ⟨ms, h1.keep fun g hg => ?_, h2, h3, (hne _ _ h4 rfl).trans h4, (hne _ _ h5 rfl).trans h5, (hne _ _ h6 rfl).trans h6, (hne _ _ h7 rfl).trans h7, ownFrom_below (Nat.le_refl _) hn () W W' row h8 hg hr⟩
  obtain ⟨o, ho, hc⟩ := h1.cells hg
  exact hne g o ho hc

/-- What Copy makes. -/
def CopiedTo (w : World) (most : Int) (l : List It) (e : Ending) (w' : World) : Prop := ∃ q, e = .returned (.pointer (some ⟨q, 0, none⟩)) ∧ Skip w' (New w w') q most l ∧ Below w.heap.size w w'

theorem copyNew {w w1 : World} {q : Nat} {most : Int} (h : Skip w1 (New w w1) q most []) : Bod w1 q 0 most [] ∧ 0 ≤ most ∧ most ≤ 1000 := by
  obtain ⟨ns, m, h2, _⟩ := h
  have : ns = [] := by simpa [itsOf] using h2
  subst this
  exact ⟨m.bod, m.mo⟩

theorem copyStart {w w1 w2 : World} {most : Int} {B3 : Nat} (h : Bod w1 w.heap.size 0 most []) (hb : Below w.heap.size w w1) (hb2 : Below (w1.alloc (.cells #[.pointer (some ⟨w.heap.size, 0, none⟩)] 97)).heap.size (w1.alloc (.cells #[.pointer (some ⟨w.heap.size, 0, none⟩)] 97)) w2) (hB3 : B3 = w1.heap.size) (ns : List Nd) (p : Nat) :
    Below w.heap.size w (((w2.alloc (.cells #[.pointer (some ⟨(pos w.heap.size []) 0, 0, none⟩), .pointer (some ⟨(pos w.heap.size []) 1, 0, none⟩), .pointer (some ⟨(pos w.heap.size []) 2, 0, none⟩), .pointer (some ⟨(pos w.heap.size []) 3, 0, none⟩), .pointer (some ⟨(pos w.heap.size []) 4, 0, none⟩), .pointer (some ⟨(pos w.heap.size []) 5, 0, none⟩), .pointer (some ⟨(pos w.heap.size []) 6, 0, none⟩), .pointer (some ⟨(pos w.heap.size []) 7, 0, none⟩)] 199)).alloc (.cells #[.pointer (some ⟨p, 0, none⟩)] 117)).alloc (.cells #[.int .i64 0] 3)) ∧ CopyInv w w.heap.size most B3 w2.heap.size (w2.heap.size + 1) p ns 0 (((w2.alloc (.cells #[.pointer (some ⟨(pos w.heap.size []) 0, 0, none⟩), .pointer (some ⟨(pos w.heap.size []) 1, 0, none⟩), .pointer (some ⟨(pos w.heap.size []) 2, 0, none⟩), .pointer (some ⟨(pos w.heap.size []) 3, 0, none⟩), .pointer (some ⟨(pos w.heap.size []) 4, 0, none⟩), .pointer (some ⟨(pos w.heap.size []) 5, 0, none⟩), .pointer (some ⟨(pos w.heap.size []) 6, 0, none⟩), .pointer (some ⟨(pos w.heap.size []) 7, 0, none⟩)] 199)).alloc (.cells #[.pointer (some ⟨p, 0, none⟩)] 117)).alloc (.cells #[.int .i64 0] 3)) := by
  subst hB3
  have x3 := Boxed.new w1 97 (.pointer (some ⟨w.heap.size, 0, none⟩))
  have e1 : Below w1.heap.size w1 (w1.alloc (.cells #[.pointer (some ⟨w.heap.size, 0, none⟩)] 97)) := (Below.refl _ w1).alloc (Nat.le_refl _) _
  generalize w1.alloc (.cells #[.pointer (some ⟨w.heap.size, 0, none⟩)] 97) = v1 at *
  have p4 := PBox.new w2 (pos w.heap.size [])
  have e2 : Below w2.heap.size w2 (w2.alloc (.cells #[.pointer (some ⟨(pos w.heap.size []) 0, 0, none⟩), .pointer (some ⟨(pos w.heap.size []) 1, 0, none⟩), .pointer (some ⟨(pos w.heap.size []) 2, 0, none⟩), .pointer (some ⟨(pos w.heap.size []) 3, 0, none⟩), .pointer (some ⟨(pos w.heap.size []) 4, 0, none⟩), .pointer (some ⟨(pos w.heap.size []) 5, 0, none⟩), .pointer (some ⟨(pos w.heap.size []) 6, 0, none⟩), .pointer (some ⟨(pos w.heap.size []) 7, 0, none⟩)] 199)) := (Below.refl _ w2).alloc (Nat.le_refl _) _
  generalize hv2 : w2.alloc (.cells #[.pointer (some ⟨(pos w.heap.size []) 0, 0, none⟩), .pointer (some ⟨(pos w.heap.size []) 1, 0, none⟩), .pointer (some ⟨(pos w.heap.size []) 2, 0, none⟩), .pointer (some ⟨(pos w.heap.size []) 3, 0, none⟩), .pointer (some ⟨(pos w.heap.size []) 4, 0, none⟩), .pointer (some ⟨(pos w.heap.size []) 5, 0, none⟩), .pointer (some ⟨(pos w.heap.size []) 6, 0, none⟩), .pointer (some ⟨(pos w.heap.size []) 7, 0, none⟩)] 199) = v2 at *
  have s2 : v2.heap.size = w2.heap.size + 1 := by rw [← hv2]; simp
  have xh := (Boxed.new v2 117 (.pointer (some ⟨p, 0, none⟩))).alloc (.cells #[.int .i64 0] 3)
  have xj := Boxed.new (v2.alloc (.cells #[.pointer (some ⟨p, 0, none⟩)] 117)) 3 (.int .i64 0)
  rw [World.size_alloc, s2] at xj
  rw [s2] at xh
  have e3 : Below v2.heap.size v2 ((v2.alloc (.cells #[.pointer (some ⟨p, 0, none⟩)] 117)).alloc (.cells #[.int .i64 0] 3)) := ((Below.refl _ v2).alloc (Nat.le_refl _) _).alloc (by simp) _
  generalize (v2.alloc (.cells #[.pointer (some ⟨p, 0, none⟩)] 117)).alloc (.cells #[.int .i64 0] 3) = v3 at *
  have hs := hb.size
  have hs1 := e1.size
  have hs2 := hb2.size
  have e12 : Below w1.heap.size w1 v3 := ((e1.trans (hb2.mono hs1)).trans (e2.mono (by omega))).trans (e3.mono (by omega))
  have e13 : Below v1.heap.size v1 v3 := (hb2.trans (e2.mono (by omega))).trans (e3.mono (by omega))
  refine ⟨hb.trans (e12.mono hs), [], h.below e12, by simp [itsOf], fun g hg => ?_, p4.below e3, boxed_keep x3 e13, xh, xj, hb.trans (e12.mono hs)⟩
  have : g = w.heap.size := by simpa [InF, blks] using hg
  omega

theorem copyB4 {w w1 w2 : World} {o : Obj} (hb : Below w.heap.size w w1) (hb2 : Below (w1.alloc o).heap.size (w1.alloc o) w2) : w.heap.size ≤ w2.heap.size := by
  have h1 := hb.size
  have h2 := hb2.size
  simp at h2
  omega

theorem copyRange {w W : World} {p q : Nat} {many most most' : Int} {B3 B4 bh : Nat} {ns : List Nd} {k : Nat} (h : Bod w p many most ns) (hc : CopyInv w q most' B3 B4 bh p ns k W) : BehindAt W bh p 0 (lv ns 0) := by
  obtain ⟨ms, _, _, _, _, _, h6, h7, h8⟩ := hc
  exact ⟨h6.cell, h7.cell, (h.below h8).ch 0 (by omega)⟩

theorem lv_zero {ns : List Nd} (h : ∀ n ∈ ns, 1 ≤ n.h ∧ n.h ≤ 8) : lv ns 0 = blks ns := by
  unfold lv blks
  rw [List.filter_eq_self.2]
  intro n hn
  have := h n hn
  simp
  omega

theorem copyAt {w : World} {p : Nat} {many most : Int} {ns : List Nd} {k : Nat} (h : Bod w p many most ns) (hk : k < (lv ns 0).length) : ∃ n ∈ ns, n.b = (lv ns 0).getD k 0 ∧ (1 ≤ n.h ∧ n.h ≤ 8) ∧ ns[k]? = some n := by
  rw [lv_zero h.hs] at hk ⊢
  have hk2 : k < ns.length := by simpa [blks] using hk
  exact ⟨ns[k], List.getElem_mem hk2, by simp [blks, List.getD, hk2], h.hs _ (List.getElem_mem hk2), by simp [hk2]⟩

theorem copyLe {w : World} {p : Nat} {most : Int} {ns ms : List Nd} {k : Nat} {n : Nd} (h : Skp w p most ns) (hi : itsOf ms = (itsOf ns).take k) (hn : ns[k]? = some n) : ∀ m ∈ ms, m.v ≤ n.v := fun m hm => by
  have h1 : (⟨m.v, m.h⟩ : It) ∈ (itsOf ns).take k := by rw [← hi]; exact List.mem_map_of_mem hm
  obtain ⟨i, hi1, hi2⟩ := List.mem_take_iff_getElem.1 h1
  obtain ⟨hk, hnk⟩ := List.getElem?_eq_some_iff.1 hn
  have hi3 : i < ns.length := by omega
  have hp := List.pairwise_iff_getElem.1 h.so i k (by simpa using hi3) (by simpa using hk) (by omega)
  simp only [List.getElem_map] at hp
  have e : (⟨ns[i].v, ns[i].h⟩ : It) = ⟨m.v, m.h⟩ := by simpa [itsOf] using hi2
  injection e with e1 _
  rw [← e1, ← hnk]
  exact hp

theorem copyNe {w W : World} {most : Int} {B3 B4 bh p k : Nat} {ns ms : List Nd} (h : (Bod W w.heap.size k most ms ∧ itsOf ms = (itsOf ns).take k ∧ (∀ g, InF w.heap.size ms g → w.heap.size ≤ g) ∧ PBox W B4 (pos w.heap.size ms) ∧ Boxed W B3 97 (.pointer (some ⟨w.heap.size, 0, none⟩)) ∧ Boxed W bh 117 (.pointer (some ⟨p, 0, none⟩)) ∧ Boxed W (bh + 1) 3 (.int .i64 0) ∧ Below w.heap.size w W)) {x : Nat} (hx : x < w.heap.size) (hB4 : w.heap.size ≤ B4) : B3 ≠ B4 ∧ x ≠ B4 := by
  have h3 := h.2.2.2.2.1
  have h4 := h.2.2.2.1
  unfold PBox at h4
  refine ⟨fun e => ?_, fun e => ?_⟩
  · unfold Boxed at h3
    rw [e, h4] at h3
    injection h3 with h3
    injection h3 with _ h3
    exact absurd h3 (by decide)
  · omega

theorem copyS {w W w4 : World} {most : Int} {B3 B4 bh p k x : Nat} {ns ms : List Nd} {v : Int} {hh : Int} (h : (Bod W w.heap.size k most ms ∧ itsOf ms = (itsOf ns).take k ∧ (∀ g, InF w.heap.size ms g → w.heap.size ≤ g) ∧ PBox W B4 (pos w.heap.size ms) ∧ Boxed W B3 97 (.pointer (some ⟨w.heap.size, 0, none⟩)) ∧ Boxed W bh 117 (.pointer (some ⟨p, 0, none⟩)) ∧ Boxed W (bh + 1) 3 (.int .i64 0) ∧ Below w.heap.size w W)) (hw : Wrote (InF w.heap.size (ms ++ [])) W.drew w4) (hx : x < w.heap.size)
    (cv : W.cell? ⟨x, 0, none⟩ = some (.int .i32 v)) (c1 : W.cell? ⟨x, 1, none⟩ = some (.int .i64 hh)) (c3 : W.cell? ⟨B3, 0, none⟩ = some (.pointer (some ⟨w.heap.size, 0, none⟩))) :
    w4.cell? ⟨B3, 0, none⟩ = some (.pointer (some ⟨w.heap.size, 0, none⟩)) ∧ w4.cell? ⟨x, 0, none⟩ = some (.int .i32 v) ∧ w4.cell? ⟨x, 1, none⟩ = some (.int .i64 hh) := by
  rw [List.append_nil] at hw
  have hxs : x < W.drew.heap.size := Nat.lt_of_lt_of_le hx h.2.2.2.2.2.2.2.size
  have hxF : ¬ InF w.heap.size ms x := fun e => by have := h.2.2.1 x e; omega
  exact ⟨(hw.cell (p := ⟨B3, 0, none⟩) h.2.2.2.2.1.lt (h.1.notIn h.2.2.2.2.1 (by decide) (by decide))).trans c3, (hw.cell (p := ⟨x, 0, none⟩) hxs hxF).trans cv, (hw.cell (p := ⟨x, 1, none⟩) hxs hxF).trans c1⟩

theorem copyP {w W w4 : World} {most : Int} {B3 B4 bh p k : Nat} {ns ms : List Nd} (h : (Bod W w.heap.size k most ms ∧ itsOf ms = (itsOf ns).take k ∧ (∀ g, InF w.heap.size ms g → w.heap.size ≤ g) ∧ PBox W B4 (pos w.heap.size ms) ∧ Boxed W B3 97 (.pointer (some ⟨w.heap.size, 0, none⟩)) ∧ Boxed W bh 117 (.pointer (some ⟨p, 0, none⟩)) ∧ Boxed W (bh + 1) 3 (.int .i64 0) ∧ Below w.heap.size w W)) (hw : Wrote (InF w.heap.size (ms ++ [])) W.drew w4) : PBox w4 B4 (pos w.heap.size ms) := by
  rw [List.append_nil] at hw
  exact (hw.block B4 h.2.2.2.1.lt (h.1.notIn h.2.2.2.1 (by decide) (by decide))).trans h.2.2.2.1

theorem copySet {W : World} {B3 B4 x : Nat} {a b c : Value} (h : W.cell? ⟨B3, 0, none⟩ = some a ∧ W.cell? ⟨x, 0, none⟩ = some b ∧ W.cell? ⟨x, 1, none⟩ = some c) (hn : B3 ≠ B4 ∧ x ≠ B4) (v0 v1 v2 v3 v4 v5 v6 v7 : Value) :
    ((((((((W.setCell ⟨B4, 0, none⟩ v0).setCell ⟨B4, 1, none⟩ v1).setCell ⟨B4, 2, none⟩ v2).setCell ⟨B4, 3, none⟩ v3).setCell ⟨B4, 4, none⟩ v4).setCell ⟨B4, 5, none⟩ v5).setCell ⟨B4, 6, none⟩ v6).setCell ⟨B4, 7, none⟩ v7).cell? ⟨B3, 0, none⟩ = some a ∧ ((((((((W.setCell ⟨B4, 0, none⟩ v0).setCell ⟨B4, 1, none⟩ v1).setCell ⟨B4, 2, none⟩ v2).setCell ⟨B4, 3, none⟩ v3).setCell ⟨B4, 4, none⟩ v4).setCell ⟨B4, 5, none⟩ v5).setCell ⟨B4, 6, none⟩ v6).setCell ⟨B4, 7, none⟩ v7).cell? ⟨x, 0, none⟩ = some b ∧ ((((((((W.setCell ⟨B4, 0, none⟩ v0).setCell ⟨B4, 1, none⟩ v1).setCell ⟨B4, 2, none⟩ v2).setCell ⟨B4, 3, none⟩ v3).setCell ⟨B4, 4, none⟩ v4).setCell ⟨B4, 5, none⟩ v5).setCell ⟨B4, 6, none⟩ v6).setCell ⟨B4, 7, none⟩ v7).cell? ⟨x, 1, none⟩ = some c := by
  have hw := wrote8 (F := fun b => b = B4) (Wrote.refl _ W) (B := B4) (.inr rfl) v0 v1 v2 v3 v4 v5 v6 v7
  have k := fun (q : Addr) (u : Value) (hq : W.cell? q = some u) (hn : q.block ≠ B4) => (hw.cell (p := q) (World.block_lt_of_cell? W q hq) hn).trans hq
  exact ⟨k _ _ h.1 hn.1, k _ _ h.2.1 hn.2, k _ _ h.2.2 hn.2⟩

/-- Behind a put: one item more. -/
theorem copyPut {w W w4 : World} {most : Int} {B3 B4 bh p k : Nat} {ns ms : List Nd} {n : Nd} {e : Ending} (hm : Skp w p most ns) (h : (Bod W w.heap.size k most ms ∧ itsOf ms = (itsOf ns).take k ∧ (∀ g, InF w.heap.size ms g → w.heap.size ≤ g) ∧ PBox W B4 (pos w.heap.size ms) ∧ Boxed W B3 97 (.pointer (some ⟨w.heap.size, 0, none⟩)) ∧ Boxed W bh 117 (.pointer (some ⟨p, 0, none⟩)) ∧ Boxed W (bh + 1) 3 (.int .i64 0) ∧ Below w.heap.size w W)) (hn : ns[k]? = some n ∧ (1 ≤ n.h ∧ n.h ≤ 8) ∧ n.b < w.heap.size)
    (hp : PutPost W.drew w.heap.size k most ms [] n.v (hOf n.h) e w4) : ∃ tb, e = .returned (.agg #[.pointer (some ⟨(pos w.heap.size (ms ++ [⟨tb, n.v, hOf n.h⟩])) 0, 0, none⟩), .pointer (some ⟨(pos w.heap.size (ms ++ [⟨tb, n.v, hOf n.h⟩])) 1, 0, none⟩), .pointer (some ⟨(pos w.heap.size (ms ++ [⟨tb, n.v, hOf n.h⟩])) 2, 0, none⟩), .pointer (some ⟨(pos w.heap.size (ms ++ [⟨tb, n.v, hOf n.h⟩])) 3, 0, none⟩), .pointer (some ⟨(pos w.heap.size (ms ++ [⟨tb, n.v, hOf n.h⟩])) 4, 0, none⟩), .pointer (some ⟨(pos w.heap.size (ms ++ [⟨tb, n.v, hOf n.h⟩])) 5, 0, none⟩), .pointer (some ⟨(pos w.heap.size (ms ++ [⟨tb, n.v, hOf n.h⟩])) 6, 0, none⟩), .pointer (some ⟨(pos w.heap.size (ms ++ [⟨tb, n.v, hOf n.h⟩])) 7, 0, none⟩)]) ∧ Wrote (InF w.heap.size (ms ++ [])) W.drew w4 ∧ KeepsOthers W w4 ∧ Below w.heap.size w w4 ∧ Bod w4 w.heap.size ((k + 1 : Nat) : Int) most (ms ++ [⟨tb, n.v, hOf n.h⟩]) ∧ itsOf (ms ++ [⟨tb, n.v, hOf n.h⟩]) = (itsOf ns).take (k + 1) ∧
      (∀ g, InF w.heap.size (ms ++ [⟨tb, n.v, hOf n.h⟩]) g → w.heap.size ≤ g) ∧ Boxed w4 B3 97 (.pointer (some ⟨w.heap.size, 0, none⟩)) ∧ Boxed w4 bh 117 (.pointer (some ⟨p, 0, none⟩)) ∧ Boxed w4 (bh + 1) 3 (.int .i64 0) := by
  obtain ⟨tb, h1, he, h2, h3⟩ := hp
  have hwa := h3
  rw [List.append_nil] at h3
  obtain ⟨hn1, hn2, hn3⟩ := hn
  have hh : hOf (n.h : Int) = n.h := by have := hOf_self (n.h : Int) (by omega) (by omega); omega
  obtain ⟨hk, hnk⟩ := List.getElem?_eq_some_iff.1 hn1
  have hbw := h.2.2.2.2.2.2.2
  refine ⟨tb, he, hwa, ?_, ?_, by rw [show ((k + 1 : Nat) : Int) = (k : Int) + 1 by omega]; exact h2, ?_, fun g hg => ?_, ?_, ?_, ?_⟩
  · have := (h.1.keep (w' := W.drew) fun _ _ => rfl).keeps h3
    exact ⟨this.size, this.same⟩
  · exact hbw.trans ((Below.refl _ W).drew.trans (h3.below hbw.size h.2.2.1))
  · have hki : k < (itsOf ns).length := by simpa [itsOf] using hk
    rw [List.take_succ_eq_append_getElem hki, ← h.2.1, hh]
    simp [itsOf, hnk]
  · simp only [InF, blks, List.map_append, List.map_cons, List.map_nil, List.mem_cons, List.mem_append, List.not_mem_nil, or_false] at hg
    rcases hg with hg | hg | hg
    · omega
    · exact h.2.2.1 g (List.mem_cons_of_mem _ hg)
    · have := hbw.size
      have h1' : W.heap.size ≤ tb := h1
      omega
  · exact (h3.block B3 h.2.2.2.2.1.lt (h.1.notIn h.2.2.2.2.1 (by decide) (by decide))).trans h.2.2.2.2.1
  · exact (h3.block bh h.2.2.2.2.2.1.lt (h.1.notIn h.2.2.2.2.2.1 (by decide) (by decide))).trans h.2.2.2.2.2.1
  · exact (h3.block (bh + 1) h.2.2.2.2.2.2.1.lt (h.1.notIn h.2.2.2.2.2.2.1 (by decide) (by decide))).trans h.2.2.2.2.2.2.1

/-- Behind the store of the place. -/
theorem copyRound {w W w4 : World} {most : Int} {B3 B4 bh p k tb n₁ : Nat} {ns ms : List Nd} {v : Int} {hh : Nat} (hp4 : PBox w4 B4 (pos w.heap.size ms)) (hB4 : w.heap.size ≤ B4)
    (h : KeepsOthers W w4 ∧ Below w.heap.size w w4 ∧ Bod w4 w.heap.size ((k + 1 : Nat) : Int) most (ms ++ [⟨tb, v, hh⟩]) ∧ itsOf (ms ++ [⟨tb, v, hh⟩]) = (itsOf ns).take (k + 1) ∧
      (∀ g, InF w.heap.size (ms ++ [⟨tb, v, hh⟩]) g → w.heap.size ≤ g) ∧ Boxed w4 B3 97 (.pointer (some ⟨w.heap.size, 0, none⟩)) ∧ Boxed w4 bh 117 (.pointer (some ⟨p, 0, none⟩)) ∧ Boxed w4 (bh + 1) 3 (.int .i64 0)) :
    KeepsFrom n₁ W ((((((((w4.setCell ⟨B4, 0, none⟩ (.pointer (some ⟨pos w.heap.size (ms ++ [⟨tb, v, hh⟩]) 0, 0, none⟩))).setCell ⟨B4, 1, none⟩ (.pointer (some ⟨pos w.heap.size (ms ++ [⟨tb, v, hh⟩]) 1, 0, none⟩))).setCell ⟨B4, 2, none⟩ (.pointer (some ⟨pos w.heap.size (ms ++ [⟨tb, v, hh⟩]) 2, 0, none⟩))).setCell ⟨B4, 3, none⟩ (.pointer (some ⟨pos w.heap.size (ms ++ [⟨tb, v, hh⟩]) 3, 0, none⟩))).setCell ⟨B4, 4, none⟩ (.pointer (some ⟨pos w.heap.size (ms ++ [⟨tb, v, hh⟩]) 4, 0, none⟩))).setCell ⟨B4, 5, none⟩ (.pointer (some ⟨pos w.heap.size (ms ++ [⟨tb, v, hh⟩]) 5, 0, none⟩))).setCell ⟨B4, 6, none⟩ (.pointer (some ⟨pos w.heap.size (ms ++ [⟨tb, v, hh⟩]) 6, 0, none⟩))).setCell ⟨B4, 7, none⟩ (.pointer (some ⟨pos w.heap.size (ms ++ [⟨tb, v, hh⟩]) 7, 0, none⟩))) ∧ CopyInv w w.heap.size most B3 B4 bh p ns (k + 1) ((((((((w4.setCell ⟨B4, 0, none⟩ (.pointer (some ⟨pos w.heap.size (ms ++ [⟨tb, v, hh⟩]) 0, 0, none⟩))).setCell ⟨B4, 1, none⟩ (.pointer (some ⟨pos w.heap.size (ms ++ [⟨tb, v, hh⟩]) 1, 0, none⟩))).setCell ⟨B4, 2, none⟩ (.pointer (some ⟨pos w.heap.size (ms ++ [⟨tb, v, hh⟩]) 2, 0, none⟩))).setCell ⟨B4, 3, none⟩ (.pointer (some ⟨pos w.heap.size (ms ++ [⟨tb, v, hh⟩]) 3, 0, none⟩))).setCell ⟨B4, 4, none⟩ (.pointer (some ⟨pos w.heap.size (ms ++ [⟨tb, v, hh⟩]) 4, 0, none⟩))).setCell ⟨B4, 5, none⟩ (.pointer (some ⟨pos w.heap.size (ms ++ [⟨tb, v, hh⟩]) 5, 0, none⟩))).setCell ⟨B4, 6, none⟩ (.pointer (some ⟨pos w.heap.size (ms ++ [⟨tb, v, hh⟩]) 6, 0, none⟩))).setCell ⟨B4, 7, none⟩ (.pointer (some ⟨pos w.heap.size (ms ++ [⟨tb, v, hh⟩]) 7, 0, none⟩))) := by
  obtain ⟨a1, a2, a3, a4, a5, a6, a7, a8⟩ := h
  have hw := wrote8 (F := fun b => b = B4) (Wrote.refl _ w4) (B := B4) (.inr rfl) (.pointer (some ⟨pos w.heap.size (ms ++ [⟨tb, v, hh⟩]) 0, 0, none⟩)) (.pointer (some ⟨pos w.heap.size (ms ++ [⟨tb, v, hh⟩]) 1, 0, none⟩)) (.pointer (some ⟨pos w.heap.size (ms ++ [⟨tb, v, hh⟩]) 2, 0, none⟩)) (.pointer (some ⟨pos w.heap.size (ms ++ [⟨tb, v, hh⟩]) 3, 0, none⟩)) (.pointer (some ⟨pos w.heap.size (ms ++ [⟨tb, v, hh⟩]) 4, 0, none⟩)) (.pointer (some ⟨pos w.heap.size (ms ++ [⟨tb, v, hh⟩]) 5, 0, none⟩)) (.pointer (some ⟨pos w.heap.size (ms ++ [⟨tb, v, hh⟩]) 6, 0, none⟩)) (.pointer (some ⟨pos w.heap.size (ms ++ [⟨tb, v, hh⟩]) 7, 0, none⟩))
  have hpb := hp4.set8 (pos w.heap.size (ms ++ [⟨tb, v, hh⟩]))
  have ne : ∀ (b : Nat) (t : TypeId) (x : Value), Boxed w4 b t x → t ≠ 199 → b ≠ B4 := fun b t x hb ht e => by
    unfold Boxed at hb
    unfold PBox at hp4
    rw [e, hp4] at hb
    injection hb with hb
    injection hb with _ hb
    exact ht hb.symm
  refine ⟨keepsFrom8 (a1.from _) _ _ _ _ _ _ _ _, _, a3.keep fun g hg => hw.block g (a3.lt g hg) (fun e => ?_), a4, a5, hpb, (hw.block _ a6.lt (ne _ _ _ a6 (by decide))).trans a6, (hw.block _ a7.lt (ne _ _ _ a7 (by decide))).trans a7, (hw.block _ a8.lt (ne _ _ _ a8 (by decide))).trans a8, set8 a2 hB4 _ _ _ _ _ _ _ _⟩
  exact a3.notIn hp4 (by decide) (by decide) (e ▸ hg)

theorem copyDone {w W : World} {p : Nat} {most : Int} {B3 B4 bh : Nat} {ns : List Nd} (hm : Skp w p most ns) (hmo : 0 ≤ most ∧ most ≤ 1000) (hc : CopyInv w w.heap.size most B3 B4 bh p ns (lv ns 0).length W) (w' : World) (ht : Turned w.heap.size W w') :
    CopiedTo w most (itsOf ns) (.returned (.pointer (some ⟨w.heap.size, 0, none⟩))) w' := by
  obtain ⟨ms, h1, h2, h3, _, _, _, _, h8⟩ := hc
  have hl : (lv ns 0).length = ns.length := by rw [lv_zero hm.bod.hs]; simp [blks]
  rw [hl, List.take_of_length_le (by simp [itsOf])] at h2
  have hml : ms.length = ns.length := by have := congrArg List.length h2; simpa [itsOf] using this
  have hmv : ms.map Nd.v = ns.map Nd.v := by
    have := congrArg (List.map It.v) h2
    simpa [itsOf, Function.comp_def] using this
  rw [hl, ← hml] at h1
  have hkeep : ∀ g, InF w.heap.size ms g → w'.heap[g]? = W.heap[g]? := fun g hg => by
    obtain ⟨o, ho, hc⟩ := h1.cells hg
    rw [ho]; exact ht.cells g o ho hc
  have hb' := h1.keep hkeep
  have hbw := h8.trans ht.below
  exact ⟨_, rfl, ⟨ms, ⟨hb', by unfold Rise; rw [hmv]; exact hm.so, by rw [hml]; exact hm.len, hmo⟩, h2, fun g hg => ⟨h3 g hg, hb'.lt g hg⟩, fun g hg => hg.2⟩, hbw⟩

theorem copyNilEnd {w w1 : World} (h : Skip w1 (New w w1) w.heap.size 0 []) (hb : Below w.heap.size w w1) (o : Obj) : CopiedTo w 0 [] (.returned (.pointer (some ⟨w.heap.size, 0, none⟩))) (w1.alloc o) := by
  obtain ⟨ns, m, h2, h3, _⟩ := h.fresh ((Below.refl _ w1).alloc (Nat.le_refl _) o)
  exact ⟨_, rfl, ⟨ns, m, h2, fun g hg => ⟨(h3 g hg).1, m.bod.lt g hg⟩, fun g hg => hg.2⟩, hb.trans ((Below.refl _ w1).alloc hb.size o)⟩

section
variable {w : World} {F : Nat → Prop} {p : Nat} {most : Int} {l : List It}

set_option maxRecDepth 100000 in
set_option maxHeartbeats 4000000 in
theorem copyAnyS (h : Skip w F p most l) :
    Calls Tryz.prog 132 #[.pointer (some ⟨p, 0, none⟩)] w (CopiedTo w most l) := by
  have M := mostAny h
  have hmo := h.mo
  have N := newS most w
  rw [mostOf_self most hmo.1 hmo.2] at N
  obtain ⟨ns, m, rfl, _⟩ := h
  have HM := Lib.hid m
  clear m
  refine (callsIn_wide (n := 3)).1 ?_
  refine callsIn_of_wp_marks Tryz.func132 rfl trivial ?_ rfl
  simp only [Tryz.ntmps132, List.size_toArray, List.length_cons, List.length_nil, Nat.reduceAdd, Nat.reduceSub, Array.replicate_succ, Array.replicate_zero, List.push_toArray, List.append_toArray, List.nil_append, List.cons_append]
  gi_wp2_with fail
  refine ⟨trivial, (callsIn_wide.2 M).mono ?_⟩
  clear M
  rintro e w0 ⟨rfl, rfl⟩
  gi_wp2_with fail
  refine ⟨trivial, (callsIn_wide.2 N).mono ?_⟩
  clear N
  rintro e w1 ⟨rfl, hs1, hb1⟩
  have HS1 := Lib.hid (copyNew hs1)
  have HB1 := Lib.hid hb1
  clear hs1 hb1
  gi_wp2_with fail
  refine ⟨trivial, (callsIn_wide.2 (startAny _ _)).mono ?_⟩
  rintro e w2 ⟨rfl, hb2⟩
  have HB2 := Lib.hid hb2
  clear hb2
  gi_wp2_with fail
  refine ⟨trivial, (callsIn_wide.2 (behindAny _ _ 0)).mono ?_⟩
  rintro e w3 ⟨rfl, rfl⟩
  gi_wp2
  have HI0 := Lib.hid (copyStart HS1.out.1 HB1.out HB2.out (B3 := w1.heap.size) rfl ns p)
  generalize (((w2.alloc (.cells #[.pointer (some ⟨(pos w.heap.size []) 0, 0, none⟩), .pointer (some ⟨(pos w.heap.size []) 1, 0, none⟩), .pointer (some ⟨(pos w.heap.size []) 2, 0, none⟩), .pointer (some ⟨(pos w.heap.size []) 3, 0, none⟩), .pointer (some ⟨(pos w.heap.size []) 4, 0, none⟩), .pointer (some ⟨(pos w.heap.size []) 5, 0, none⟩), .pointer (some ⟨(pos w.heap.size []) 6, 0, none⟩), .pointer (some ⟨(pos w.heap.size []) 7, 0, none⟩)] 199)).alloc (.cells #[.pointer (some ⟨p, 0, none⟩)] 117)).alloc (.cells #[.int .i64 0] 3)) = W1 at *
  have hsz : w.heap.size ≤ W1.heap.size := HI0.out.1.size
  have HB4 := Lib.hid (copyB4 HB1.out HB2.out)
  have hmx : Tryz.prog.follows .mixedOrders = true := by kernel_rfl
  refine wpIn_rangeStops rfl (by omega) (gf := 128) (lb := #[.pointer (some ⟨w2.heap.size + 1, 0, none⟩), .pointer (some ⟨w2.heap.size + 1 + 1, 0, none⟩)]) rfl trivial (enters_of Tryz.func128 (by kernel_rfl) rfl) (towV (lv ns 0)) (fun _ => rfl) (lv ns 0).length 0
    (CopyInv w w.heap.size most w1.heap.size w2.heap.size (w2.heap.size + 1) p ns) (fun _ _ => False)
    (behindSeq (3 - 1) (by omega) (List.nodup_cons.1 (Nodup.level HM.out.bod.nd 0)).2 _ (fun k W h => copyRange HM.out.bod h)) (CopyInv.own hsz) (fun _ _ _ _ h _ _ => h) HI0.out.2
    (fun k => { tmps := #[.pointer (some ⟨p, 0, none⟩), undef, .pointer none, .pointer (some ⟨w1.heap.size, 0, none⟩), .pointer (some ⟨w2.heap.size, 0, none⟩), .pointer (some ⟨(lv ns 0).getD k 0, 0, none⟩), .pointer (some ⟨p, 0, none⟩), .int .i64 most, .pointer (some ⟨w.heap.size, 0, none⟩), .pointer (some ⟨p, 0, none⟩), .bool false, undef, .pointer (some ⟨w.heap.size, 0, none⟩), .agg #[.pointer (some ⟨pos w.heap.size [] 0, 0, none⟩), .pointer (some ⟨pos w.heap.size [] 1, 0, none⟩), .pointer (some ⟨pos w.heap.size [] 2, 0, none⟩), .pointer (some ⟨pos w.heap.size [] 3, 0, none⟩), .pointer (some ⟨pos w.heap.size [] 4, 0, none⟩), .pointer (some ⟨pos w.heap.size [] 5, 0, none⟩), .pointer (some ⟨pos w.heap.size [] 6, 0, none⟩), .pointer (some ⟨pos w.heap.size [] 7, 0, none⟩)], .pointer (some ⟨p, 0, none⟩), .pointer (some ⟨p, 0, none⟩), .pointer (some ⟨p, 0, none⟩), .func (.func 128) #[] #[.pointer (some ⟨w2.heap.size + 1, 0, none⟩), .pointer (some ⟨w2.heap.size + 1 + 1, 0, none⟩)], .pointer (some ⟨(lv ns 0).getD k 0, 0, none⟩), undef, undef, undef, undef, undef, undef, undef, undef, undef, undef, undef, undef], defers := [] }) ?assign ?body ?done ?stop
  case assign =>
    intro l k W K hK
    simp only [towV]
    gi_wp2
    exact hK
  case body =>
    rintro l k W ⟨ms, hbod, hits, hnew, hpb, h3, hbh, hbj, hB⟩ hlt
    clear HI0
    obtain ⟨n, hn1, hnb, hhs, hnx⟩ := copyAt HM.out.bod hlt
    have cv := ((HM.out.bod.below hB).tow n hn1).c0
    have c1 := ((HM.out.bod.below hB).tow n hn1).c1
    have hxl : n.b < w.heap.size := HM.out.bod.lt n.b (List.mem_cons_of_mem _ (List.mem_map_of_mem hn1))
    have c3 := h3.cell
    have p0 := hpb.cell 0 (by omega)
    have p1 := hpb.cell 1 (by omega)
    have p2 := hpb.cell 2 (by omega)
    have p3 := hpb.cell 3 (by omega)
    have p4 := hpb.cell 4 (by omega)
    have p5 := hpb.cell 5 (by omega)
    have p6 := hpb.cell 6 (by omega)
    have p7 := hpb.cell 7 (by omega)
    have hk1000 : (k : Int) ≤ 1000 := by
      have h1 := (lv_sub ns 0).length_le
      have h2 := HM.out.len
      simp [blks] at h1
      omega
    have C := putAny (w := W.drew) (A := ms) (B := []) (by rw [List.append_nil]; exact hbod.keep (fun _ _ => rfl)) n.v n.h (copyLe HM.out hits hnx) (by simp) (pos w.heap.size ms) ⟨fun j _ => pos_mem _ _ _, fun j h1 h2 => by omega⟩ (by omega) hk1000
    have HST := Lib.hid (And.intro hbod (And.intro hits (And.intro hnew (And.intro hpb (And.intro h3 (And.intro hbh (And.intro hbj hB)))))))
    have HNX := Lib.hid (And.intro hnx (And.intro hhs hxl))
    rw [hnb] at cv c1
    have HNB := Lib.hid hnb
    clear hbod hits hnew hpb h3 hbh hbj hB hlt hn1 hnb hhs hnx hxl hk1000
    generalize (lv ns 0).getD k 0 = x at *
    gi_wp2
    refine wpIn_region_round (S := fun w' => w'.cell? ⟨w1.heap.size, 0, none⟩ = some (.pointer (some ⟨w.heap.size, 0, none⟩)) ∧ w'.cell? ⟨x, 0, none⟩ = some (.int .i32 n.v) ∧ w'.cell? ⟨x, 1, none⟩ = some (.int .i64 n.h)) hmx (fun ⟨_, _, h⟩ => h) (by rfl) ⟨c3, cv, c1⟩ (fun hS => ?_)
    refine wpAnyH_take (i := 0) (v := ?_) rfl (by kernel_rfl) (by kernel_rfl) (by kernel_rfl) (fun _ _ _ h => h) (Or.inl ⟨by rfl, ?_⟩) hS ?_
    rotate_left
    · intro w hSw
      try dsimp only at hSw
      go_simp
      try with_reducible rfl
    try simp only [Act.put, List.setIfInBounds_toArray, List.set_cons_zero, List.set_cons_succ]
    refine wpAnyH_take (i := 2) (v := ?_) rfl (by kernel_rfl) (by kernel_rfl) (by kernel_rfl) (fun _ _ _ h => h) (Or.inl ⟨by rfl, ?_⟩) hS ?_
    rotate_left
    · intro w hSw
      try dsimp only at hSw
      go_simp
      try with_reducible rfl
    try simp only [Act.put, List.setIfInBounds_toArray, List.set_cons_zero, List.set_cons_succ]
    refine wpAnyH_take (i := 3) (v := ?_) rfl (by kernel_rfl) (by kernel_rfl) (by kernel_rfl) (fun _ _ _ h => h) (Or.inl ⟨by rfl, ?_⟩) hS ?_
    rotate_left
    · intro w hSw
      try dsimp only at hSw
      go_simp
      try with_reducible rfl
    try simp only [Act.put, List.setIfInBounds_toArray, List.set_cons_zero, List.set_cons_succ]
    refine wpAnyH_take (i := 4) (v := ?_) rfl (by kernel_rfl) (by kernel_rfl) (by kernel_rfl) (fun _ _ _ h => h) (Or.inl ⟨by rfl, ?_⟩) hS ?_
    rotate_left
    · intro w hSw
      try dsimp only at hSw
      go_simp
      try with_reducible rfl
    try simp only [Act.put, List.setIfInBounds_toArray, List.set_cons_zero, List.set_cons_succ]
    refine wpAnyH_take (i := 5) (v := ?_) rfl (by kernel_rfl) (by kernel_rfl) (by kernel_rfl) (fun _ _ _ h => h) (Or.inl ⟨by rfl, ?_⟩) hS ?_
    rotate_left
    · intro w hSw
      try dsimp only at hSw
      go_simp
      try with_reducible rfl
    try simp only [Act.put, List.setIfInBounds_toArray, List.set_cons_zero, List.set_cons_succ]
    refine wpAnyH_take (i := 6) (v := ?_) rfl (by kernel_rfl) (by kernel_rfl) (by kernel_rfl) (fun _ _ _ h => h) (Or.inl ⟨by rfl, ?_⟩) hS ?_
    rotate_left
    · intro w hSw
      try dsimp only at hSw
      go_simp
      try with_reducible rfl
    try simp only [Act.put, List.setIfInBounds_toArray, List.set_cons_zero, List.set_cons_succ]
    refine wpAnyH_take (i := 7) (v := ?_) rfl (by kernel_rfl) (by kernel_rfl) (by kernel_rfl) (fun _ _ _ h => h) (Or.inl ⟨by rfl, ?_⟩) hS ?_
    rotate_left
    · intro w hSw
      try dsimp only at hSw
      go_simp
      try with_reducible rfl
    try simp only [Act.put, List.setIfInBounds_toArray, List.set_cons_zero, List.set_cons_succ]
    refine wpAnyH_take (i := 8) (v := ?_) rfl (by kernel_rfl) (by kernel_rfl) (by kernel_rfl) (fun _ _ _ h => h) (Or.inl ⟨by rfl, ?_⟩) hS ?_
    rotate_left
    · intro w hSw
      try dsimp only at hSw
      go_simp
      try with_reducible rfl
    try simp only [Act.put, List.setIfInBounds_toArray, List.set_cons_zero, List.set_cons_succ]
    refine wpAnyH_take (i := 9) (v := ?_) rfl (by kernel_rfl) (by kernel_rfl) (by kernel_rfl) (fun _ _ _ h => h) (Or.inl ⟨by rfl, ?_⟩) hS ?_
    rotate_left
    · intro w hSw
      try dsimp only at hSw
      go_simp
      try with_reducible rfl
    try simp only [Act.put, List.setIfInBounds_toArray, List.set_cons_zero, List.set_cons_succ]
    refine wpAnyH_ready (rs := [1]) (by kernel_rfl) (by simp) ?_
    refine AllReadyH.cons rfl (fun K hK => ?_) ?_
    · go_simp
      refine hK.out _ _ ⟨c3, cv, c1⟩ (fun hS => ?_)
      clear hK K
      refine wpAnyH_ready (rs := [10]) (by kernel_rfl) (by simp) ?_
      refine AllReadyH.cons rfl (fun K hK => ?_) ?_
      · go_simp
        refine C.mono ?_
        clear C
        intro e w4 hp
        obtain ⟨tb, he, hw4, hr4⟩ := copyPut HM.out HST.out HNX.out hp
        clear hp
        subst he
        have HW4 := Lib.hid hw4
        have HR4 := Lib.hid hr4
        clear hw4 hr4
        have S4 := copyS HST.out HW4.out (HNB.out ▸ HNX.out.2.2) cv c1 c3
        refine hK.out _ _ S4 (fun hS => ?_)
        clear hK K
        have hpb4 := copyP HST.out HW4.out
        have HPB := Lib.hid hpb4
        have r0 := hpb4.cell 0 (by omega)
        have f0 := hpb4.f 0
        have r1 := hpb4.cell 1 (by omega)
        have f1 := hpb4.f 1
        have r2 := hpb4.cell 2 (by omega)
        have f2 := hpb4.f 2
        have r3 := hpb4.cell 3 (by omega)
        have f3 := hpb4.f 3
        have r4 := hpb4.cell 4 (by omega)
        have f4 := hpb4.f 4
        have r5 := hpb4.cell 5 (by omega)
        have f5 := hpb4.f 5
        have r6 := hpb4.cell 6 (by omega)
        have f6 := hpb4.f 6
        have r7 := hpb4.cell 7 (by omega)
        have f7 := hpb4.f 7
        refine wpAnyH_ready (rs := [11]) (by kernel_rfl) (by simp) ?_
        refine AllReadyH.cons rfl (fun K hK => ?_) ?_
        · go_simp
          refine hK.out _ _ (copySet S4 (copyNe HST.out (HNB.out ▸ HNX.out.2.2) HB4.out) _ _ _ _ _ _ _ _) (fun hS => ?_)
          clear hK K
          refine wpAnyH_done (by kernel_rfl) ?_ _
          gi_wp2
          exact copyRound HPB.out HB4.out HR4.out
        exact AllReadyH.nil
      exact AllReadyH.nil
    exact AllReadyH.nil
  case done =>
    rintro D W hD hI hK
    have HD := Lib.hid (Nat.le_trans hsz hD)
    have HQ := Lib.hid (copyDone HM.out HS1.out.2 hI)
    obtain ⟨ms, _, _, _, _, h3, _⟩ := hI
    have c3 := h3.cell
    clear h3
    gi_wp2
    refine ⟨by simp, .inl ⟨_, _, rfl, run_takeDeferred hK, ?_⟩⟩
    refine ⟨_, results_tmp rfl _ _ _, ?_⟩
    exact HQ.out _ (Turned.put HD.out hK)
  case stop =>
    rintro D k W _ _ h _
    exact h.elim

theorem copyNilS (w : World) :
    Calls Tryz.prog 132 #[.pointer none] w (CopiedTo w 0 []) := by
  have N := newS 0 w
  rw [mostOf_self 0 (by omega) (by omega)] at N
  refine (callsIn_wide (n := 3)).1 ?_
  refine callsIn_of_wp_marks Tryz.func132 rfl trivial ?_ rfl
  simp only [Tryz.ntmps132, List.size_toArray, List.length_cons, List.length_nil, Nat.reduceAdd, Nat.reduceSub, Array.replicate_succ, Array.replicate_zero, List.push_toArray, List.append_toArray, List.nil_append, List.cons_append]
  gi_wp2_with fail
  refine ⟨trivial, (callsIn_wide.2 (mostNil w)).mono ?_⟩
  rintro e w0 ⟨rfl, rfl⟩
  gi_wp2_with fail
  refine ⟨trivial, (callsIn_wide.2 N).mono ?_⟩
  clear N
  rintro e w1 ⟨rfl, hs1, hb1⟩
  have HS1 := Lib.hid hs1
  have HB1 := Lib.hid hb1
  clear hs1 hb1
  gi_wp2
  refine ⟨_, results_tmp rfl _ _ _, ?_⟩
  exact copyNilEnd HS1.out HB1.out _
end

end Go.Proofs.YtniefplgijpckaaGreat
