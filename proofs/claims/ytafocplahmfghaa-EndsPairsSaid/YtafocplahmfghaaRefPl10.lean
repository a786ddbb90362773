/-
  Three rows of one's own, the first of which is cut at both its ends. Conditions: none; no Go function is looked at here.
-/
import Derived.Test.YtafocplahmfghaaDqPl10
import Derived.Test.YtafocplahmfghaaBase10
namespace Go.Proofs.Ytafocplahmfghaa
open Go.RowKit

theorem tail_src {P : Program} {w : World} {t e : TypeId} (ht : P.underlying t = some (.slice e)) {xs : List Value} {ao : Option Addr} {n cap : Nat} (hn : n = xs.length) (h : Tail w (.slice ao n cap) xs) (h1 : ∀ u ∈ xs, u.oneCell' = true) : Src P 1 t (.slice ao n cap) n xs w := by
  subst hn
  rcases h with ⟨hv, rfl⟩ | ⟨g, off, cap', hv, hl, hc, hm, hx, hr⟩
  · simp only [Value.slice.injEq] at hv
    obtain ⟨rfl, _, rfl⟩ := hv
    exact Src.ofNil w ht 0
  · simp only [Value.slice.injEq] at hv
    obtain ⟨rfl, _, rfl⟩ := hv
    refine Src.ofSlice w ht _ _ _ _ (by simp) (fun j u hu => ?_) h1
    have hj : j < xs.length := by
      rcases Nat.lt_or_ge j xs.length with h1 | h1
      · exact h1
      · rw [List.getElem?_eq_none h1] at hu; cases hu
    rw [Addr.add_lit]
    exact (hx j hj).trans hu
theorem ints_one (zs : List Int) : ∀ u ∈ zs.map (Value.int .i64), u.oneCell' = true := by
  intro u hu
  simp only [List.mem_map] at hu
  obtain ⟨z, _, rfl⟩ := hu
  rfl
/-- A literal of one. -/
theorem lit_tail (w : World) (t : TypeId) (x : Int) : Tail (w.alloc (.cells #[.int .i64 x] t)) (.slice (some ⟨w.heap.size, 0, none⟩) 1 1) ([x].map (Value.int .i64)) := by
  refine .inr ⟨w.heap.size, 0, 1, rfl, by simp, by simp, by simp [maxLen], fun j hj => ?_, fun j hj => ?_⟩
  · obtain rfl : j = 0 := by simp at hj; omega
    go_simp
  · obtain rfl : j = 0 := by omega
    constructor <;> go_simp
/-- Its last one, and without it. -/
theorem Tail.last {w : World} {v x : Value} {xs : List Value} (h : Tail w v (xs ++ [x])) : ∃ g off cap, v = .slice (some ⟨g, off, none⟩) (xs.length + 1) cap ∧ xs.length + 1 ≤ cap ∧ w.cell? ⟨g, off + xs.length, none⟩ = some x ∧ Tail w (.slice (some ⟨g, off, none⟩) xs.length cap) xs := by
  rcases h with ⟨_, h⟩ | ⟨g, off, cap, rfl, hl, hc, hm, hx, hr⟩
  · simp at h
  · simp only [List.length_append, List.length_singleton] at hc hx
    refine ⟨g, off, cap, by simp, hc, ?_, .inr ⟨g, off, cap, rfl, hl, by omega, hm, fun j hj => ?_, hr⟩⟩
    · have := hx xs.length (by omega)
      simpa using this
    · have := hx j (by omega)
      rwa [List.getElem?_append_left hj] at this

/-- Three rows of one's own, none of which lies in another one's block. -/
structure T3 (B : Nat) (w0 : World) (v1 v2 v3 : Value) (l1 l2 l3 : List Int) (W : World) : Prop where
  t1 : Tail W v1 (l1.map (Value.int .i64))
  g1 : ∀ g, v1.ownBlock = some g → B ≤ g
  o2 : W.ownsRow B 3 1 v2 l2.length (l2.map (Value.int .i64))
  o3 : W.ownsRow B 5 1 v3 l3.length (l3.map (Value.int .u8))
  d12 : Off2 v1 v2
  d13 : Off2 v1 v3
  d23 : Off2 v2 v3
  b : Below B w0 W
  s : B ≤ W.heap.size

section
variable {B : Nat} {w0 W W' : World} {v1 v2 v3 v' : Value} {l1 l2 l3 : List Int} {x : Int} {o : Obj}
theorem T3.start (w : World) : T3 w.heap.size w (.slice none 0 0) (.slice none 0 0) (.slice none 0 0) [] [] [] w :=
  ⟨Tail.nothing, fun g h => by simp [Value.ownBlock] at h, World.ownsRow_nil _ _ _ _, World.ownsRow_nil _ _ _ _, Off2.nil _, Off2.nil _, Off2.nil _, Below.refl _ _, Nat.le_refl _⟩
theorem T3.alloc (h : T3 B w0 v1 v2 v3 l1 l2 l3 W) (o : Obj) : T3 B w0 v1 v2 v3 l1 l2 l3 (W.alloc o) :=
  ⟨h.t1.alloc _, h.g1, h.o2.alloc _, h.o3.alloc _, h.d12, h.d13, h.d23, h.b.alloc h.s _, Nat.le_trans h.s (by simp)⟩
/-- The first row is a new literal. -/
theorem T3.lit (h : T3 B w0 v1 v2 v3 l1 l2 l3 W) (x : Int) : T3 B w0 (.slice (some ⟨W.heap.size, 0, none⟩) 1 1) v2 v3 [x] l2 l3 (W.alloc (.cells #[.int .i64 x] 3)) :=
  ⟨lit_tail W _ x, fun g hg => by simp only [Value.ownBlock, Option.some.injEq] at hg; have := h.s; omega, h.o2.alloc _, h.o3.alloc _,
    fun g hg e => by simp only [Value.ownBlock, Option.some.injEq] at hg; have := (h.o2.lt g e).2; omega,
    fun g hg e => by simp only [Value.ownBlock, Option.some.injEq] at hg; have := (h.o3.lt g e).2; omega, h.d23, h.b.alloc h.s _, Nat.le_trans h.s (by simp)⟩
theorem T3.app1 (h : T3 B w0 v1 v2 v3 l1 l2 l3 W) {ys : List Int} (ht : Tail W' v' (l1.map (Value.int .i64) ++ ys.map (Value.int .i64))) (hg : W.grownBy W' v1.ownBlock) (hl : ∀ g, v'.ownBlock = some g → v1.ownBlock = some g ∨ W.heap.size ≤ g) : T3 B w0 v' v2 v3 (l1 ++ ys) l2 l3 W' :=
  ⟨by simpa using ht, fun g e => by
      rcases hl g e with h1 | h1
      · exact h.g1 g h1
      · exact Nat.le_trans h.s h1, grown_keep hg h.o2 h.d12, grown_keep hg h.o3 h.d13, grown_off hl h.o2 h.d12, grown_off hl h.o3 h.d13, h.d23, h.b.grown hg h.s (fun k e => h.g1 k e), Nat.le_trans h.s hg.size⟩
theorem T3.keep1 (h : T3 B w0 v1 v2 v3 l1 l2 l3 W) {u : Value} (hg : W.grownBy W' u.ownBlock) (hd : Off2 v1 u) : Tail W' v1 (l1.map (Value.int .i64)) :=
  h.t1.keep hg.size (fun g hg' => hg.block g (h.t1.lt hg') (fun e => hd g hg' e.symm))
theorem off_one {v u v' : Value} {W : World} (hl : ∀ g, v'.ownBlock = some g → v.ownBlock = some g ∨ W.heap.size ≤ g) (hlt : ∀ g, u.ownBlock = some g → g < W.heap.size) (hd : Off2 u v) : Off2 u v' := fun g a b => by
  rcases hl g b with h | h
  · exact hd g a h
  · have := hlt g a; omega
theorem T3.app2 (h : T3 B w0 v1 v2 v3 l1 l2 l3 W) (ho : W'.ownsRow B 3 1 v' (l2.length + 1) (l2.map (Value.int .i64) ++ [.int .i64 x])) (hg : W.grownBy W' v2.ownBlock) (hl : ∀ g, v'.ownBlock = some g → v2.ownBlock = some g ∨ W.heap.size ≤ g) : T3 B w0 v1 v' v3 l1 (l2 ++ [x]) l3 W' :=
  ⟨h.keep1 hg h.d12, h.g1, by simpa using ho, grown_keep hg h.o3 h.d23, off_one hl (fun g e => h.t1.lt e) h.d12, h.d13, grown_off hl h.o3 h.d23, h.b.grown hg h.s (fun k e => (h.o2.lt k e).1), Nat.le_trans h.s hg.size⟩
theorem T3.app3 (h : T3 B w0 v1 v2 v3 l1 l2 l3 W) (ho : W'.ownsRow B 5 1 v' (l3.length + 1) (l3.map (Value.int .u8) ++ [.int .u8 x])) (hg : W.grownBy W' v3.ownBlock) (hl : ∀ g, v'.ownBlock = some g → v3.ownBlock = some g ∨ W.heap.size ≤ g) : T3 B w0 v1 v2 v' l1 l2 (l3 ++ [x]) W' :=
  ⟨h.keep1 hg h.d13, h.g1, grown_keep hg h.o2 h.d23.symm, by simpa using ho, h.d12, off_one hl (fun g e => h.t1.lt e) h.d13, (grown_off hl h.o2 h.d23.symm).symm, h.b.grown hg h.s (fun k e => (h.o3.lt k e).1), Nat.le_trans h.s hg.size⟩
/-- Another part of the first row's block. -/
theorem T3.part (h : T3 B w0 v1 v2 v3 l1 l2 l3 W) {l : List Int} (ht : Tail W v' (l.map (Value.int .i64))) (hb : ∀ g, v'.ownBlock = some g → v1.ownBlock = some g) : T3 B w0 v' v2 v3 l l2 l3 W :=
  ⟨ht, fun g e => h.g1 g (hb g e), h.o2, h.o3, fun g e => h.d12 g (hb g e), fun g e => h.d13 g (hb g e), h.d23, h.b, h.s⟩
/-- Its first one cut off. -/
theorem T3.tail {g off cap n : Nat} {z : Int} {l : List Int} (h : T3 B w0 (.slice (some ⟨g, off, none⟩) (n + 1) cap) v2 v3 (z :: l) l2 l3 W) (hn : n = l.length) : T3 B w0 (.slice (if cap = 1 then some ⟨g, off, none⟩ else some ⟨g, off + 1, none⟩) n (cap - 1)) v2 v3 l l2 l3 W := by
  have ht := h.t1
  have e : n = (l.map (Value.int .i64)).length := by simp [hn]
  rw [e] at ht ⊢
  refine h.part (Tail.rest ht) (fun k hk => ?_)
  split at hk <;> simpa [Value.ownBlock] using hk
/-- Its last one cut off. -/
theorem T3.front {g off cap n : Nat} {z : Int} {l : List Int} (h : T3 B w0 (.slice (some ⟨g, off, none⟩) (n + 1) cap) v2 v3 (l ++ [z]) l2 l3 W) (hn : n = l.length) : T3 B w0 (.slice (some ⟨g, off, none⟩) n cap) v2 v3 l l2 l3 W := by
  have ht := h.t1
  rw [List.map_append] at ht
  obtain ⟨g', off', cap', hv, _, _, h2⟩ := Tail.last ht
  simp only [Value.slice.injEq, Option.some.injEq, Addr.mk.injEq, and_true] at hv
  obtain ⟨⟨rfl, rfl⟩, _, rfl⟩ := hv
  rw [List.length_map, ← hn] at h2
  exact h.part h2 (fun k hk => by simpa [Value.ownBlock] using hk)
end

end Go.Proofs.Ytafocplahmfghaa
