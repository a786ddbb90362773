/-
  A memory and the document's one, two threads in boxes of their own, the document's memory in a box: what a round of OwnerRuns writes to. Conditions: none; no Go function is looked at here.
-/
import Derived.Test.YthefdglocnalhaaDuo15m
import Derived.Test.YthefdglocnalhaaNil15m
import Derived.Test.YthefdglocnalhaaRefA15m
namespace Go.Proofs.Ythefdglocnalhaa.M2
open Go.RowKit

theorem own_low {w : World} {B B' n : Nat} {u : Value} {xs : List Value} (h : w.ownsRow B 2 1 u n xs) (hB : B' ≤ B) : w.ownsRow B' 2 1 u n xs := by
  refine ⟨h.1, ?_⟩
  rcases h.2 with hn | ⟨g, cap, cur, e, hl, r⟩
  · exact .inl hn
  · exact .inr ⟨g, cap, cur, e, Nat.le_trans hB hl, r⟩
theorem Mem.lower {w : World} {B B' p : Nat} {v : Value} {size : Int} {zs : List Int} {st : Int} (m : Mem w B p v size zs st) (hB : B' ≤ B) : Mem w B' p v size zs st := ⟨m.block, Nat.le_trans hB m.low, own_low m.own hB, m.s0, m.s1, m.room⟩

/-- An operation in a block of its own. -/
def OBx (w : World) (g : Nat) (k v : Int) : Prop := w.heap[g]? = some (.cells #[.int .u8 k, .int .i32 v] 27 (0, 0))
theorem OBx.lt {w : World} {g : Nat} {k v : Int} (h : OBx w g k v) : g < w.heap.size := lt_of_block h
theorem OBx.keep {w w' : World} {g : Nat} {k v : Int} (h : OBx w g k v) (hb : Below w.heap.size w w') : OBx w' g k v := (hb.block g h.lt).trans h
theorem OBx.off {w w' : World} {g : Nat} {c x : Int} (h : OBx w g c x) (k : Kept w w') : OBx w' g c x := k _ _ _ h (by decide) (by decide)
theorem OBx.c0 {w : World} {g : Nat} {c x : Int} (h : OBx w g c x) : w.cell? ⟨g, 0, none⟩ = some (.int .u8 c) := by unfold OBx at h; simp [World.cell?, h]
theorem OBx.c1 {w : World} {g : Nat} {c x : Int} (h : OBx w g c x) : w.cell? ⟨g, 1, none⟩ = some (.int .i32 x) := by unfold OBx at h; simp [World.cell?, h]
theorem OBx.new (w : World) (k v : Int) : OBx (w.alloc (.cells #[.int .u8 k, .int .i32 v] 27)) w.heap.size k v := heap_alloc_new w _
theorem Boxed.off {w w' : World} {g : Nat} {x y z : Value} (h : Boxed w g x y z) (k : Kept w w') : Boxed w' g x y z := k _ _ _ h (by decide) (by decide)
theorem setM_size (w : World) (g : Nat) (a b d : Value) : (setM w g a b d).heap.size = w.heap.size := by simp [setM, World.setCell]

/-- Two memories, the operation's box, the boxes of the document's memory and of both threads. -/
structure RN (w : World) (p go gr gt gu : Nat) (k x : Int) (v u : Value) (size : Int) (zs ys : List Int) (st sd : Int) (T U : Th) (b c : Value) (wr : World) : Prop where
  d : DM w p v u size zs st ys wr
  o : OBx wr go k x
  r : Boxed wr gr (.int .i64 size) u (.int .i64 sd)
  t : TX wr gt T b
  y : TX wr gu U c
  lo : w.heap.size ≤ gr ∧ w.heap.size ≤ gt ∧ w.heap.size ≤ gu
  nt : gt ≠ gu

section
variable {w a : World} {p go gr gt gu : Nat} {k x : Int} {v u : Value} {size : Int} {zs ys : List Int} {st sd : Int} {T U : Th} {b c : Value}
theorem RN.fresh {a' : World} (h : RN w p go gr gt gu k x v u size zs ys st sd T U b c a) (hb : Below a.heap.size a a') : RN w p go gr gt gu k x v u size zs ys st sd T U b c a' :=
  ⟨h.d.fresh hb, h.o.keep hb, h.r.keep hb, h.t.keep hb, h.y.keep hb, h.lo, h.nt⟩
theorem RN.did {a' : World} {zs' : List Int} {st' : Int} (h : RN w p go gr gt gu k x v u size zs ys st sd T U b c a) (d : Did w.heap.size p v size zs' st' a a') : ∃ v', RN w p go gr gt gu k x v' u size zs' ys st' sd T U b c a' := by
  obtain ⟨v', D⟩ := h.d.did d
  have K := d.kept h.d.m
  exact ⟨v', D, h.o.off K, h.r.off K, h.t.off K, h.y.off K, h.lo, h.nt⟩
theorem RN.ne {a : World} {g1 g2 : Nat} {c1 c2 : Array Value} {t1 t2 : TypeId} (h1 : a.heap[g1]? = some (.cells c1 t1 (0, 0))) (h2 : a.heap[g2]? = some (.cells c2 t2 (0, 0))) (h : t1 ≠ t2) : g1 ≠ g2 := by
  rintro rfl
  rw [h1] at h2
  simp only [Option.some.injEq, Obj.cells.injEq] at h2
  exact h h2.2.1
/-- The document's memory is another one from now on. -/
theorem RN.turn {u2 : Value} {ys2 : List Int} (h : RN w p go gr gt gu k x v u size zs ys st sd T U b c a) (d : DM w p v u2 size zs st ys2 a) (sd2 : Int) :
    RN w p go gr gt gu k x v u2 size zs ys2 st sd2 T U b c (setM a gr (.int .i64 size) u2 (.int .i64 sd2)) := by
  have hb := setM_below d.b h.lo.1 (.int .i64 size) u2 (.int .i64 sd2)
  have ho : ∀ {g : Nat} {cs : Array Value} {ty : TypeId}, a.heap[g]? = some (.cells cs ty (0, 0)) → ty ≠ 37 → (setM a gr (.int .i64 size) u2 (.int .i64 sd2)).heap[g]? = some (.cells cs ty (0, 0)) := fun hg hn => (setM_other a (RN.ne hg h.r hn) _ _ _).trans hg
  exact ⟨d.other h.r (by decide) (by decide) (fun k hk => setM_other a hk _ _ _) hb, ho h.o (by decide), h.r.all _ _ _, ho h.t (by decide), ho h.y (by decide), h.lo, h.nt⟩
theorem RN.putT (h : RN w p go gr gt gu k x v u size zs ys st sd T U b c a) (T' : Th) (b' : Value) : RN w p go gr gt gu k x v u size zs ys st sd T' U b' c (setT a gt T' b') := by
  have hb := setT_below h.d.b h.lo.2.1 T' b'
  have ho : ∀ {g : Nat} {cs : Array Value} {ty : TypeId}, a.heap[g]? = some (.cells cs ty (0, 0)) → ty ≠ 25 → (setT a gt T' b').heap[g]? = some (.cells cs ty (0, 0)) := fun hg hn => (setT_other a (RN.ne hg h.t hn) _ _).trans hg
  exact ⟨h.d.other h.t (by decide) (by decide) (fun k hk => setT_other a hk _ _) hb, ho h.o (by decide), ho h.r (by decide), h.t.all _ _, (setT_other a h.nt.symm _ _).trans h.y, h.lo, h.nt⟩
theorem RN.putU (h : RN w p go gr gt gu k x v u size zs ys st sd T U b c a) (U' : Th) (c' : Value) : RN w p go gr gt gu k x v u size zs ys st sd T U' b c' (setT a gu U' c') := by
  have hb := setT_below h.d.b h.lo.2.2 U' c'
  have ho : ∀ {g : Nat} {cs : Array Value} {ty : TypeId}, a.heap[g]? = some (.cells cs ty (0, 0)) → ty ≠ 25 → (setT a gu U' c').heap[g]? = some (.cells cs ty (0, 0)) := fun hg hn => (setT_other a (RN.ne hg h.y hn) _ _).trans hg
  exact ⟨h.d.other h.y (by decide) (by decide) (fun k hk => setT_other a hk _ _) hb, ho h.o (by decide), ho h.r (by decide), (setT_other a h.nt _ _).trans h.t, h.y.all _ _, h.lo, h.nt⟩
end

end Go.Proofs.Ythefdglocnalhaa.M2
