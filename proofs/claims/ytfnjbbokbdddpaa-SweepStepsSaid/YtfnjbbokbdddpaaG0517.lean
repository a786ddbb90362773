/-
  The boxes in which the calls of reaperref17 lay a memory and a thread. Conditions: none. A memory and the document's one, two threads in boxes of their own, the document's memory in a box: what a round of SweepRuns writes to. Conditions: none; no Go function is looked at here. A memory that is filled number by number beside the document's one (reaperlaw13.Memory), the place of its list told. Conditions: at most 200 numbers.
-/
import Derived.Test.YtfnjbbokbdddpaaG0417
import Derived.Test.YtfnjbbokbdddpaaG0217
import Derived.Test.YtfnjbbokbdddpaaG0317
import Derived.BigRegion
namespace Go.Proofs.Ytfnjbbokbdddpaa.M2
open Go.RowKit

def setM (w : World) (g : Nat) (a b d : Value) : World := ((w.setCell ⟨g, 0, none⟩ a).setCell ⟨g, 1, none⟩ b).setCell ⟨g, 2, none⟩ d
theorem setM_other (w : World) {g k : Nat} (hk : k ≠ g) (a b d : Value) : (setM w g a b d).heap[k]? = w.heap[k]? := by
  unfold setM
  repeat rw [Below.heap_setCell _ _ _ _ (by simpa using hk)]
theorem setM_below {a w : World} {B g : Nat} (h : Below B a w) (hg : B ≤ g) (x y z : Value) : Below B a (setM w g x y z) := ((h.setCell hg _).setCell hg _).setCell hg _
theorem Boxed.all {w : World} {g : Nat} {a b d : Value} (h : Boxed w g a b d) (x y z : Value) : Boxed (setM w g x y z) g x y z := ((h.set0 x).set1 y).set2 z

theorem own_at {w w' : World} {B n : Nat} {u : Value} {xs : List Value} (h : w.ownsRow B 2 1 u n xs) (k : ∀ (g : Nat) (cs : Array Value), w.heap[g]? = some (Obj.cells cs 2 (0, 0)) → w'.heap[g]? = w.heap[g]?) : w'.ownsRow B 2 1 u n xs := by
  refine ⟨h.1, ?_⟩
  rcases h.2 with hn | ⟨g, cap, cur, rfl, hl, hg, r⟩
  · exact .inl hn
  · exact .inr ⟨g, cap, cur, rfl, hl, (k g _ hg).trans hg, r⟩

structure PF (w : World) (B N b1 b2 b3 : Nat) (u : Value) (size : Int) (u' : Value) (zs' : List Int) (st' : Int) (T : Th) (b : Value) (w4 : World) : Prop where
  o : w4.ownsRow B 2 1 u' zs'.length (zs'.map (Value.int .i64))
  l : Later u u' w
  m : Boxed w4 N (.int .i64 size) u' (.int .i64 st')
  x : TX w4 b1 T b
  y : Boxed w4 b2 (.int .i64 0) (.slice none 0 0) (.int .i64 0)
  z : TX w4 b3 t0 (.slice none 0 0)
  b : Below w.heap.size w w4
  g1 : w.heap.size ≤ b1
  g2 : w.heap.size ≤ b2
  g3 : w.heap.size ≤ b3
  n23 : b3 ≠ b2
  n13 : b3 ≠ b1

section
variable {w w4 : World} {B N b1 b2 b3 : Nat} {u u' : Value} {size : Int} {zs' : List Int} {st' : Int} {T : Th} {b : Value}
theorem PF.fin (h : PF w B N b1 b2 b3 u size u' zs' st' T b w4) :
    Boxed (setT (setM w4 b2 (.int .i64 size) u' (.int .i64 st')) b3 T b) b2 (.int .i64 size) u' (.int .i64 st') ∧ TX (setT (setM w4 b2 (.int .i64 size) u' (.int .i64 st')) b3 T b) b3 T b ∧ Left w B u zs' u' (setT (setM w4 b2 (.int .i64 size) u' (.int .i64 st')) b3 T b) := by
  have z1 : TX (setM w4 b2 (.int .i64 size) u' (.int .i64 st')) b3 t0 (.slice none 0 0) := (setM_other w4 h.n23 _ _ _).trans h.z
  refine ⟨(setT_other _ h.n23.symm _ _).trans (h.y.all _ _ _), z1.all T b, own_at h.o ?_, h.l, setT_below (setM_below h.b h.g2 _ _ _) h.g3 _ _⟩
  intro g cs hg
  refine (setT_other _ ?_ _ _).trans (setM_other w4 ?_ _ _ _)
  · rintro rfl
    have := h.z
    unfold TX at this
    rw [hg] at this
    simp at this
  · rintro rfl
    have := h.y
    unfold Boxed at this
    rw [hg] at this
    simp at this
theorem PF.set (h : PF w B N b1 b2 b3 u size u' zs' st' T b w4) {j : Nat} {v : Value} {T' : Th} (hx : TX (w4.setCell ⟨b1, j, none⟩ v) b1 T' b) : PF w B N b1 b2 b3 u size u' zs' st' T' b (w4.setCell ⟨b1, j, none⟩ v) := by
  have ne : ∀ {k : Nat} {cs : Array Value} {t : TypeId}, w4.heap[k]? = some (Obj.cells cs t (0, 0)) → t ≠ 25 → k ≠ b1 := by
    rintro k cs t hk ht rfl
    have := h.x
    unfold TX at this
    rw [hk] at this
    simp only [Option.some.injEq, Obj.cells.injEq] at this
    exact ht this.2.1
  refine ⟨own_at h.o (fun g cs hg => Below.heap_setCell _ _ _ _ (ne hg (by decide))), h.l, (Below.heap_setCell _ _ _ _ (ne h.m (by decide))).trans h.m, hx, (Below.heap_setCell _ _ _ _ (ne h.y (by decide))).trans h.y, ?_, h.b.setCell h.g1 _, h.g1, h.g2, h.g3, h.n23, h.n13⟩
  exact (Below.heap_setCell _ _ _ _ h.n13).trans h.z
end

section
variable {w : World} {B : Nat} {u : Value} {size : Int} {zs : List Int} {st : Int} {t : Th}

structure PB (w : World) (B : Nat) (u : Value) (size : Int) (zs : List Int) (st : Int) (t : Th) (b : Value) (W : World) : Prop where
  o : W.ownsRow B 2 1 u zs.length (zs.map (Value.int .i64))
  m : Boxed W w.heap.size (.int .i64 size) u (.int .i64 st)
  x : TX W (w.heap.size + 1) t b
  y : Boxed W (w.heap.size + 1 + 1) (.int .i64 0) (.slice none 0 0) (.int .i64 0)
  z : TX W (w.heap.size + 1 + 1 + 1) t0 (.slice none 0 0)
  b : Below w.heap.size w W
  s : W.heap.size = w.heap.size + 4

theorem PB.new (h : w.ownsRow B 2 1 u zs.length (zs.map (Value.int .i64))) (t : Th) (b : Value) : ∀ W, (((w.alloc (.cells #[.int .i64 size, u, .int .i64 st] 39)).alloc (.cells #[.int .i64 t.ti, .int .i64 t.pc, .int .i64 t.rc, .int .i64 t.sq, .int .i64 t.wo, .int .i64 t.lk, .int .i64 t.cu, .int .i64 t.pv, .int .i64 t.nt, .int .i64 t.mx, .int .i64 t.ps, .int .i64 t.rn, b] 25)).alloc (.cells #[.int .i64 0, .slice none 0 0, .int .i64 0] 39)).alloc (.cells #[.int .i64 0, .int .i64 0, .int .i64 0, .int .i64 0, .int .i64 0, .int .i64 0, .int .i64 0, .int .i64 0, .int .i64 0, .int .i64 0, .int .i64 0, .int .i64 0, .slice none 0 0] 25) = W → PB w B u size zs st t b W := by
  rintro W rfl
  have hb : Below w.heap.size w ((((w.alloc (.cells #[.int .i64 size, u, .int .i64 st] 39)).alloc (.cells #[.int .i64 t.ti, .int .i64 t.pc, .int .i64 t.rc, .int .i64 t.sq, .int .i64 t.wo, .int .i64 t.lk, .int .i64 t.cu, .int .i64 t.pv, .int .i64 t.nt, .int .i64 t.mx, .int .i64 t.ps, .int .i64 t.rn, b] 25)).alloc (.cells #[.int .i64 0, .slice none 0 0, .int .i64 0] 39)).alloc (.cells #[.int .i64 0, .int .i64 0, .int .i64 0, .int .i64 0, .int .i64 0, .int .i64 0, .int .i64 0, .int .i64 0, .int .i64 0, .int .i64 0, .int .i64 0, .int .i64 0, .slice none 0 0] 25)) := ((((Below.refl _ _).alloc (Nat.le_refl _) _).alloc (by simp) _).alloc (by simp; omega) _).alloc (by simp; omega) _
  refine ⟨own_keep h hb, (((Boxed.new _ _ _ _).alloc _).alloc _).alloc _, ?_, ?_, ?_, hb, by simp⟩
  · have := ((TX.new (w.alloc (.cells #[.int .i64 size, u, .int .i64 st] 39)) t b).alloc (.cells #[.int .i64 0, .slice none 0 0, .int .i64 0] 39)).alloc (.cells #[.int .i64 0, .int .i64 0, .int .i64 0, .int .i64 0, .int .i64 0, .int .i64 0, .int .i64 0, .int .i64 0, .int .i64 0, .int .i64 0, .int .i64 0, .int .i64 0, .slice none 0 0] 25)
    simpa using this
  · have := (Boxed.new ((w.alloc (.cells #[.int .i64 size, u, .int .i64 st] 39)).alloc (.cells #[.int .i64 t.ti, .int .i64 t.pc, .int .i64 t.rc, .int .i64 t.sq, .int .i64 t.wo, .int .i64 t.lk, .int .i64 t.cu, .int .i64 t.pv, .int .i64 t.nt, .int .i64 t.mx, .int .i64 t.ps, .int .i64 t.rn, b] 25)) (.int .i64 0) (.slice none 0 0) (.int .i64 0)).alloc (.cells #[.int .i64 0, .int .i64 0, .int .i64 0, .int .i64 0, .int .i64 0, .int .i64 0, .int .i64 0, .int .i64 0, .int .i64 0, .int .i64 0, .int .i64 0, .int .i64 0, .slice none 0 0] 25)
    simpa using this
  · have := TX.new (((w.alloc (.cells #[.int .i64 size, u, .int .i64 st] 39)).alloc (.cells #[.int .i64 t.ti, .int .i64 t.pc, .int .i64 t.rc, .int .i64 t.sq, .int .i64 t.wo, .int .i64 t.lk, .int .i64 t.cu, .int .i64 t.pv, .int .i64 t.nt, .int .i64 t.mx, .int .i64 t.ps, .int .i64 t.rn, b] 25)).alloc (.cells #[.int .i64 0, .slice none 0 0, .int .i64 0] 39)) t0 (.slice none 0 0)
    simpa [t0] using this

theorem PB.call {W w2 w3 : World} {b u' : Value} {zs' : List Int} {st' : Int} (h : PB w B u size zs st t b W) (l : Left W B u zs' u' w2) (e : w2.alloc (.cells #[.int .i64 size, u', .int .i64 st'] 39) = w3) :
    PF w B w2.heap.size (w.heap.size + 1) (w.heap.size + 1 + 1) (w.heap.size + 1 + 1 + 1) u size u' zs' st' t b w3 := by
  subst e
  obtain ⟨o, lt, bl⟩ := l
  have hb := bl.alloc bl.size (.cells #[.int .i64 size, u', .int .i64 st'] 39)
  exact ⟨o.alloc _, fun g hg => (lt g hg).imp id (fun h1 => by have := h.s; omega), Boxed.new _ _ _ _, h.x.keep hb, h.y.keep hb, h.z.keep hb, h.b.trans (hb.mono h.b.size), by omega, by omega, by omega, by omega, by omega⟩

theorem PF.fresh {w4 w5 : World} {N b1 b2 b3 : Nat} {u' : Value} {zs' : List Int} {st' : Int} {T : Th} {b : Value} (h : PF w B N b1 b2 b3 u size u' zs' st' T b w4) (hb : Below w4.heap.size w4 w5) : PF w B N b1 b2 b3 u size u' zs' st' T b w5 :=
  ⟨own_keep h.o hb, h.l, h.m.keep hb, h.x.keep hb, h.y.keep hb, h.z.keep hb, h.b.trans (hb.mono h.b.size), h.g1, h.g2, h.g3, h.n23, h.n13⟩

theorem PB.callT {W w2 w3 : World} {b b' u' : Value} {T : Th} {zs' : List Int} {st' : Int} (h : PB w B u size zs st t b W) (l : Left W B u zs' u' w2) (e : (w2.alloc (.cells #[.int .i64 size, u', .int .i64 st'] 39)).alloc (.cells #[.int .i64 T.ti, .int .i64 T.pc, .int .i64 T.rc, .int .i64 T.sq, .int .i64 T.wo, .int .i64 T.lk, .int .i64 T.cu, .int .i64 T.pv, .int .i64 T.nt, .int .i64 T.mx, .int .i64 T.ps, .int .i64 T.rn, b'] 25) = w3) :
    PF w B w2.heap.size (w2.heap.size + 1) (w.heap.size + 1 + 1) (w.heap.size + 1 + 1 + 1) u size u' zs' st' T b' w3 := by
  subst e
  obtain ⟨o, lt, bl⟩ := l
  have hb := (bl.alloc bl.size (.cells #[.int .i64 size, u', .int .i64 st'] 39)).alloc (by have := bl.size; simp; omega) (.cells #[.int .i64 T.ti, .int .i64 T.pc, .int .i64 T.rc, .int .i64 T.sq, .int .i64 T.wo, .int .i64 T.lk, .int .i64 T.cu, .int .i64 T.pv, .int .i64 T.nt, .int .i64 T.mx, .int .i64 T.ps, .int .i64 T.rn, b'] 25)
  have hs := bl.size
  have hW := h.s
  have ht := TX.new (w2.alloc (.cells #[.int .i64 size, u', .int .i64 st'] 39)) T b'
  rw [show (w2.alloc (.cells #[.int .i64 size, u', .int .i64 st'] 39)).heap.size = w2.heap.size + 1 by simp] at ht
  exact ⟨own_keep o (((Below.refl w2.heap.size w2).alloc (Nat.le_refl _) _).alloc (by simp) _), fun g hg => (lt g hg).imp id (fun h1 => by omega), (Boxed.new _ _ _ _).alloc _, ht, h.y.keep hb, h.z.keep hb, h.b.trans (hb.mono h.b.size), by omega, by omega, by omega, by omega, by omega⟩

theorem PF.finY {w4 : World} {N b1 b2 b3 : Nat} {u' : Value} {zs' : List Int} {st' : Int} {T : Th} {b : Value} (h : PF w B N b1 b2 b3 u size u' zs' st' T b w4) (T2 : Th) :
    Boxed (setT (setM w4 b2 (.int .i64 size) u' (.int .i64 st')) b3 T2 b) b2 (.int .i64 size) u' (.int .i64 st') ∧ TX (setT (setM w4 b2 (.int .i64 size) u' (.int .i64 st')) b3 T2 b) b3 T2 b ∧ Left w B u zs' u' (setT (setM w4 b2 (.int .i64 size) u' (.int .i64 st')) b3 T2 b) := by
  have z1 : TX (setM w4 b2 (.int .i64 size) u' (.int .i64 st')) b3 t0 (.slice none 0 0) := (setM_other w4 h.n23 _ _ _).trans h.z
  refine ⟨(setT_other _ h.n23.symm _ _).trans (h.y.all _ _ _), z1.all T2 b, own_at h.o ?_, h.l, setT_below (setM_below h.b h.g2 _ _ _) h.g3 _ _⟩
  intro g cs hg
  refine (setT_other _ ?_ _ _).trans (setM_other w4 ?_ _ _ _)
  · rintro rfl
    have := h.z
    unfold TX at this
    rw [hg] at this
    simp at this
  · rintro rfl
    have := h.y
    unfold Boxed at this
    rw [hg] at this
    simp at this

def RQ (w : World) (B : Nat) (u : Value) (size : Int) (b : Value) (S : Sw) (st : Int) (e : Ending) (w' : World) : Prop :=
  ∃ u', e = .returned (.tuple #[.agg #[.int .i64 size, u', .int .i64 (st + S.c)], thV S.t b]) ∧ Left w B u S.zs u' w'
end

end Go.Proofs.Ytfnjbbokbdddpaa.M2
namespace Go.Proofs.Ytfnjbbokbdddpaa.M2
open Go.RowKit

theorem Boxed.off {w w' : World} {g : Nat} {x y z : Value} (h : Boxed w g x y z) (k : Kept w w') : Boxed w' g x y z := k _ _ _ h (by decide) (by decide)
structure RN (w : World) (p gr gt gu : Nat) (v u : Value) (size : Int) (zs ys : List Int) (st sd : Int) (T U : Th) (b c : Value) (wr : World) : Prop where
  d : DM w p v u size zs st ys wr
  r : Boxed wr gr (.int .i64 size) u (.int .i64 sd)
  t : TX wr gt T b
  y : TX wr gu U c
  lo : w.heap.size ≤ gr ∧ w.heap.size ≤ gt ∧ w.heap.size ≤ gu
  nt : gt ≠ gu

section
variable {w a : World} {p gr gt gu : Nat} {v u : Value} {size : Int} {zs ys : List Int} {st sd : Int} {T U : Th} {b c : Value}
theorem RN.fresh {a' : World} (h : RN w p gr gt gu v u size zs ys st sd T U b c a) (hb : Below a.heap.size a a') : RN w p gr gt gu v u size zs ys st sd T U b c a' :=
  ⟨h.d.fresh hb, h.r.keep hb, h.t.keep hb, h.y.keep hb, h.lo, h.nt⟩
theorem RN.did {a' : World} {zs' : List Int} {st' : Int} (h : RN w p gr gt gu v u size zs ys st sd T U b c a) (d : Did w.heap.size p v size zs' st' a a') : ∃ v', RN w p gr gt gu v' u size zs' ys st' sd T U b c a' := by
  obtain ⟨v', D⟩ := h.d.did d
  have K := d.kept h.d.m
  exact ⟨v', D, h.r.off K, h.t.off K, h.y.off K, h.lo, h.nt⟩
theorem RN.ne {a : World} {g1 g2 : Nat} {c1 c2 : Array Value} {t1 t2 : TypeId} (h1 : a.heap[g1]? = some (.cells c1 t1 (0, 0))) (h2 : a.heap[g2]? = some (.cells c2 t2 (0, 0))) (h : t1 ≠ t2) : g1 ≠ g2 := by
  rintro rfl
  rw [h1] at h2
  simp only [Option.some.injEq, Obj.cells.injEq] at h2
  exact h h2.2.1
theorem RN.turn {u2 : Value} {ys2 : List Int} (h : RN w p gr gt gu v u size zs ys st sd T U b c a) (d : DM w p v u2 size zs st ys2 a) (sd2 : Int) :
    RN w p gr gt gu v u2 size zs ys2 st sd2 T U b c (setM a gr (.int .i64 size) u2 (.int .i64 sd2)) := by
  have hb := setM_below d.b h.lo.1 (.int .i64 size) u2 (.int .i64 sd2)
  have ho : ∀ {g : Nat} {cs : Array Value} {ty : TypeId}, a.heap[g]? = some (.cells cs ty (0, 0)) → ty ≠ 39 → (setM a gr (.int .i64 size) u2 (.int .i64 sd2)).heap[g]? = some (.cells cs ty (0, 0)) := fun hg hn => (setM_other a (RN.ne hg h.r hn) _ _ _).trans hg
  exact ⟨d.other h.r (by decide) (by decide) (fun k hk => setM_other a hk _ _ _) hb, h.r.all _ _ _, ho h.t (by decide), ho h.y (by decide), h.lo, h.nt⟩
theorem RN.putT (h : RN w p gr gt gu v u size zs ys st sd T U b c a) (T' : Th) (b' : Value) : RN w p gr gt gu v u size zs ys st sd T' U b' c (setT a gt T' b') := by
  have hb := setT_below h.d.b h.lo.2.1 T' b'
  have ho : ∀ {g : Nat} {cs : Array Value} {ty : TypeId}, a.heap[g]? = some (.cells cs ty (0, 0)) → ty ≠ 25 → (setT a gt T' b').heap[g]? = some (.cells cs ty (0, 0)) := fun hg hn => (setT_other a (RN.ne hg h.t hn) _ _).trans hg
  exact ⟨h.d.other h.t (by decide) (by decide) (fun k hk => setT_other a hk _ _) hb, ho h.r (by decide), h.t.all _ _, (setT_other a h.nt.symm _ _).trans h.y, h.lo, h.nt⟩
theorem RN.putU (h : RN w p gr gt gu v u size zs ys st sd T U b c a) (U' : Th) (c' : Value) : RN w p gr gt gu v u size zs ys st sd T U' b c' (setT a gu U' c') := by
  have hb := setT_below h.d.b h.lo.2.2 U' c'
  have ho : ∀ {g : Nat} {cs : Array Value} {ty : TypeId}, a.heap[g]? = some (.cells cs ty (0, 0)) → ty ≠ 25 → (setT a gu U' c').heap[g]? = some (.cells cs ty (0, 0)) := fun hg hn => (setT_other a (RN.ne hg h.y hn) _ _).trans hg
  exact ⟨h.d.other h.y (by decide) (by decide) (fun k hk => setT_other a hk _ _) hb, ho h.r (by decide), (setT_other a h.nt _ _).trans h.t, h.y.all _ _, h.lo, h.nt⟩
end

end Go.Proofs.Ytfnjbbokbdddpaa.M2
namespace Go.Proofs.Ytfnjbbokbdddpaa.M2
open Go.RowKit

def MadeT (w : World) (zs : List Int) (e : Ending) (w' : World) : Prop :=
  ∃ p u v, e = .returned (.tuple #[.pointer (some ⟨p, 0, none⟩), .agg #[.int .i64 (zs.length : Int), u, .int .i64 (1 + (zs.length : Int))]]) ∧ Mem w' w.heap.size p v zs.length zs (1 + (zs.length : Int)) ∧
    w'.ownsRow w.heap.size 2 1 u zs.length (zs.map (Value.int .i64)) ∧ (∀ g, u.ownBlock = some g → v.ownBlock ≠ some g) ∧ Below w.heap.size w w'

set_option maxRecDepth 100000 in
set_option maxHeartbeats 16000000 in
theorem memoryTwo (w : World) (ao : Option Addr) (len cap : Nat) (zs : List Int) (hz : Reads .i64 w ao len zs) (hl : len ≤ 200) :
    Calls Try.prog 15 #[.slice ao len cap] w (MadeT w zs) := by
  obtain rfl : zs.length = len := hz.1
  have HZ := Lib.hid hz
  clear hz
  have HS := Lib.hid (sizeOf'_self zs.length hl)
  have HL := Lib.hid hl
  obtain ⟨len, hlen⟩ : ∃ n, zs.length = n := ⟨_, rfl⟩
  rw [hlen] at HS HL hl ⊢
  have HE := Lib.hid hlen
  clear hlen
  go_enter Try.func15, Try.ntmps15
  go_wp2_with fail
  generalize hW : w.alloc (.cells #[.int .i64 0, .slice none 0 0, .int .i64 0] 39) = W
  have HT := Lib.hid (show Boxed W w.heap.size (.int .i64 0) (.slice none 0 0) (.int .i64 0) by subst hW; exact Boxed.new _ _ _ _)
  have HB := Lib.hid (show Below w.heap.size w W by subst hW; exact (Below.refl _ _).alloc (Nat.le_refl _) _)
  clear hW
  refine (newAny (len : Int) W).mono ?_
  rintro e w1 ⟨rfl, m1, b1⟩
  rw [HS.out] at m1
  have HM1 := Lib.hid m1
  have HT1 := Lib.hid (HT.out.keep b1)
  have HB1 := Lib.hid (HB.out.trans (b1.mono HB.out.size))
  have HX := Lib.hid (show w.heap.size < W.heap.size from HT.out.lt)
  clear b1 m1 HT
  go_wp2_with fail
  refine (refNew (len : Int) w1).mono ?_
  rintro e w2 ⟨rfl, b2⟩
  rw [HS.out]
  go_upto_region 3 with (fail)
  generalize hW3 : w2.alloc (.cells #[.int .i64 (len : Int), .slice none 0 0, .int .i64 0] 39) = W3
  have HBM := Lib.hid (show BM w w2.heap.size W.heap.size (.slice none 0 0) (.slice none 0 0) (len : Int) [] 0 [] 0 W3 by
    subst hW3
    have hb := b2.alloc b2.size (.cells #[.int .i64 (len : Int), .slice none 0 0, .int .i64 0] 39)
    have m := HM1.out.fresh hb
    refine ⟨⟨m.block, Nat.le_trans (Nat.le_of_lt HX.out) m.low, World.ownsRow_nil _ _ _ _, m.s0, m.s1, m.room⟩, World.ownsRow_nil _ _ _ _, by simp [Value.ownBlock], Boxed.new _ _ _ _, HT1.out.keep hb, ?_, HB1.out.trans (hb.mono HB1.out.size)⟩
    have := HT1.out.lt
    have := b2.size
    omega)
  clear hW3 b2 HM1 HT1 HB1 HB HX
  generalize w2.heap.size = rb at *
  generalize W.heap.size = p at *
  have C := refAllocOk (size := (len : Int)) (st := 0) HBM.out.o HBM.out.b.size len (by have := HL.out; omega) (by simp) (by simp) (by omega) (by omega)
  have c0 := HBM.out.r.c0
  have c1 := HBM.out.r.c1
  have c2 := HBM.out.r.c2
  go_wp2_with fail
  refine C.mono ?_
  clear C c0 c1 c2
  rintro e w4 ⟨u4, rfl, l4⟩
  have l4 : Left W3 w.heap.size (.slice none 0 0) (List.replicate len 0) u4 w4 := l4
  obtain ⟨a4, cp4, e4⟩ := ownShape l4.1
  rw [List.length_replicate] at e4
  subst e4
  have HAF := Lib.hid (AF.a HBM.out l4)
  clear l4 HBM
  go_upto_region 4 with (fail)
  generalize hW5 : w4.alloc (.cells #[.int .i64 (len : Int), .slice a4 len cp4, .int .i64 (0 + 1)] 39) = W5 at HAF
  have hW5' : w4.alloc (.cells #[.int .i64 (len : Int), .slice a4 len cp4, .int .i64 1] 39) = W5 := hW5
  rw [hW5']
  clear hW5 hW5'
  generalize w4.heap.size = nb at *
  have c0 := HAF.out.r2.c0
  have c1 := HAF.out.r2.c1
  have c2 := HAF.out.r2.c2
  have d0 := HAF.out.h.r.c0
  have d1 := HAF.out.h.r.c1
  have d2 := HAF.out.h.r.c2
  have df := HAF.out.h.r.f
  have C := HAF.out.turn.alloc len (by simp) (by omega) (by omega)
  go_wp2_with fail
  refine C.mono ?_
  clear C c0 c1 c2 d0 d1 d2 df
  rintro e w6 ⟨rfl, v6, bm6⟩
  have HM6 := Lib.hid (show BM w rb p v6 (.slice a4 len cp4) (len : Int) (setN (List.replicate len 0) 0 zs 0) (1 + ((0 : Nat) : Int)) (setN (List.replicate len 0) 0 zs 0) (1 + ((0 : Nat) : Int)) w6 from bm6)
  clear bm6 HAF
  go_wp2
  go_loopw [9] (fun iv wr => MemoRel w rb p zs iv wr) (fun iv _ => zs.length - (intOf iv).toNat)
  case atStart => exact ⟨0, v6, _, by omega, rfl, by rw [HE.out]; exact HM6.out⟩
  case round =>
    obtain ⟨k, v, u, hk, rfl, hbm⟩ := hrel
    have HBM := Lib.hid hbm
    clear hbm HM6
    rw [HE.out] at hk HBM
    obtain ⟨aq, cq, eq⟩ := ownShape HBM.out.o
    rw [setN_length, List.length_replicate] at eq
    subst eq
    by_cases hlt : k < len
    · have i0 : (k : Int) < (len : Int) := by omega
      obtain ⟨b, off, rfl, lb, hcs⟩ := HZ.out.2 (by have := HE.out; omega)
      have hck := hcs k (by have := HE.out; omega)
      have cz := (HBM.out.b.cell (p := ⟨b, off + k, none⟩) lb).trans hck
      clear hcs
      obtain ⟨z, hzz⟩ : ∃ z, zs.getD k 0 = z := ⟨_, rfl⟩
      obtain ⟨Y, hY⟩ : ∃ Y, setN (List.replicate len 0) 0 zs k = Y := ⟨_, rfl⟩
      obtain ⟨Z, hZ⟩ : ∃ Z, Y.set k z = Z := ⟨_, rfl⟩
      have HY1 := Lib.hid (show setN (List.replicate len 0) 0 zs (k + 1) = Z by rw [setN, hY, hzz, Nat.zero_add]; exact hZ)
      have hYl : Y.length = len := by rw [← hY, setN_length, List.length_replicate]
      have hZl : Z.length = len := by rw [← hZ, List.length_set]; exact hYl
      have HYL := Lib.hid hYl
      have HZL := Lib.hid hZl
      have HZ1 := Lib.hid hZ
      rw [hzz] at cz
      rw [hY] at HBM
      rw [hzz] at hck
      have HK := Lib.hid (show ∀ W, Below w.heap.size w W → W.cell? ⟨b, off + k, none⟩ = some (.int .i64 z) from fun W hW => (hW.cell (p := ⟨b, off + k, none⟩) lb).trans hck)
      clear hck
      clear hzz hY hZ hYl hZl
      have C := HBM.out.store (k : Int) z (by omega) (by have := HYL.out; omega) (by omega) (by omega)
      rw [show ((k : Int)).toNat = k by omega, HZ1.out] at C
      go_wp2_with fail
      refine C.mono ?_
      clear C cz
      rintro e w3 ⟨rfl, v3, bm3⟩
      have HB3 := Lib.hid bm3
      have HBd := Lib.hid (bm3.fresh (Below.refl _ _).drew)
      clear bm3 HBM
      have c0 := HK.out w3 HB3.out.b
      have c1 := HB3.out.r.c0
      have c2 := HB3.out.r.c1
      have c3 := HB3.out.r.c2
      have d0 := HK.out w3.drew HBd.out.b
      have d1 := HBd.out.r.c0
      have d2 := HBd.out.r.c1
      have d3 := HBd.out.r.c2
      go_upto_region 10 with (fail)
      go_cut [10, 11] from 44 to 53 (fun d x wx => ∃ (nb : Nat) (a2 : Option Addr) (cp2 : Nat), d = .pointer (some ⟨nb, 0, none⟩) ∧ x = .int .i64 0 ∧ Hid (AF w rb p nb v3 (.slice aq len cq) (.slice a2 len cp2) (len : Int) Z (1 + (k : Int) + 1) Y Z (1 + (k : Int)) wx))
      case first =>
        have HCA := Lib.hid (refStoreIn (size := (len : Int)) (st := 1 + (k : Int)) HBd.out.o HBd.out.b.size (k : Int) z (by omega) (by have := HYL.out; omega) (by have := HYL.out; have := HL.out; omega) (by omega) (by omega))
        have HCB := Lib.hid (refStoreIn (w := w3.drew.alloc (.cells #[.int .i64 0, .slice none 0 0, .int .i64 0] 39)) (size := (len : Int)) (st := 1 + (k : Int)) (HBd.out.o.alloc _) (Nat.le_trans HBd.out.b.size (by simp)) (k : Int) z (by omega) (by have := HYL.out; omega) (by have := HYL.out; have := HL.out; omega) (by omega) (by omega))
        rw [show ((k : Int)).toNat = k by omega, HZ1.out] at HCA HCB
        have hne : b ≠ w3.heap.size := by
          have := lb
          have := HB3.out.b.size
          omega
        have hnr : rb ≠ w3.heap.size := by
          have := HB3.out.r.lt
          omega
        have HNE := Lib.hid hne
        have HNR := Lib.hid hnr
        clear hne hnr
        have q0 : ((w3.alloc (.cells #[.int .i64 0, .slice none 0 0, .int .i64 0] 39)).drew).cell? ⟨b, off + k, none⟩ = some (.int .i64 z) := cellKept d0 _
        have q1 : ((w3.alloc (.cells #[.int .i64 0, .slice none 0 0, .int .i64 0] 39)).drew).cell? ⟨rb, 0, none⟩ = some (.int .i64 (len : Int)) := cellKept d1 _
        have q2 : ((w3.alloc (.cells #[.int .i64 0, .slice none 0 0, .int .i64 0] 39)).drew).cell? ⟨rb, 1, none⟩ = some (.slice aq len cq) := cellKept d2 _
        have q3 : ((w3.alloc (.cells #[.int .i64 0, .slice none 0 0, .int .i64 0] 39)).drew).cell? ⟨rb, 2, none⟩ = some (.int .i64 (1 + (k : Int))) := cellKept d3 _
        go_wp2
        go_region_held3 (fun w' => w'.cell? ⟨b, off + k, none⟩ = some (.int .i64 z) ∧ w'.cell? ⟨rb, 0, none⟩ = some (.int .i64 (len : Int)) ∧ w'.cell? ⟨rb, 1, none⟩ = some (.slice aq len cq) ∧ w'.cell? ⟨rb, 2, none⟩ = some (.int .i64 (1 + (k : Int)))) (((try dsimp only); first
          | with_reducible exact ⟨c0, c1, c2, c3⟩ | with_reducible exact ⟨d0, d1, d2, d3⟩ | with_reducible exact ⟨q0, q1, q2, q3⟩ | with_reducible exact ⟨cellKept c0 _, cellKept c1 _, cellKept c2 _, cellKept c3 _⟩ | with_reducible exact ⟨cellKept d0 _, cellKept d1 _, cellKept d2 _, cellKept d3 _⟩ | with_reducible exact ⟨x0, x1, x2, x3⟩ | with_reducible exact ⟨cellKept x0 _, cellKept x1 _, cellKept x2 _, cellKept x3 _⟩ | with_reducible exact ⟨other3 HNE.out x0 _ _ _, other3 HNR.out x1 _ _ _, other3 HNR.out x2 _ _ _, other3 HNR.out x3 _ _ _⟩))
          ((go_at_call 37; first
          | (refine HCA.out.mono ?_; rintro e w5 ⟨u5, rfl, l5⟩; obtain ⟨a5, cp5, e5⟩ := ownShape l5.1; rw [HZL.out] at e5; subst e5; have HF := Lib.hid (AF.a HBd.out l5); have hx := HBd.out.fresh l5.2.2; have x0 := HK.out w5 hx.b; have x1 := hx.r.c0; have x2 := hx.r.c1; have x3 := hx.r.c2; clear l5 hx)
          | (refine HCB.out.mono ?_; rintro e w5 ⟨u5, rfl, l5⟩; obtain ⟨a5, cp5, e5⟩ := ownShape l5.1; rw [HZL.out] at e5; subst e5; have HF := Lib.hid (AF.b HBd.out rfl l5); have hx := HBd.out.fresh (((Below.refl _ _).alloc (Nat.le_refl _) _).trans (l5.2.2.mono (by simp))); have x0 := HK.out w5 hx.b; have x1 := hx.r.c0; have x2 := hx.r.c1; have x3 := hx.r.c2; have hz := (Boxed.new w3.drew (.int .i64 0) (.slice none 0 0) (.int .i64 0)).keep l5.2.2; have y0 : w5.cell? ⟨w3.heap.size, 0, none⟩ = _ := hz.c0; have y1 : w5.cell? ⟨w3.heap.size, 1, none⟩ = _ := hz.c1; have y2 : w5.cell? ⟨w3.heap.size, 2, none⟩ = _ := hz.c2; have yf : ∀ o, w5.frozen? ⟨w3.heap.size, o, none⟩ = false := hz.f; clear l5 hx hz)))
        all_goals
          go_wp2
          go_meet
          exact ⟨_, _, _, rfl, rfl, HF⟩
      case' rest => skip
      obtain ⟨nb2, a2, cp2, rfl, rfl, HAF⟩ := hcut
      have e0 := HAF.out.r2.c0
      have e1 := HAF.out.r2.c1
      have e2 := HAF.out.r2.c2
      have g0 := HAF.out.h.r.c0
      have g1 := HAF.out.h.r.c1
      have g2 := HAF.out.h.r.c2
      have gf := HAF.out.h.r.f
      have HTN := Lib.hid HAF.out.turn
      clear c0 c1 c2 c3 d0 d1 d2 d3 HAF HB3 HBd
      go_wp2
      go_roundw
      case rel => exact ⟨k + 1, v3, _, by have := HE.out; omega, by go_num, by rw [HE.out, HY1.out, show (1 + ((k + 1 : Nat) : Int)) = 1 + (k : Int) + 1 by omega]; exact HTN.out⟩
      case measure => have := HE.out; simp [intOf]; omega
    · obtain rfl : k = len := by omega
      have HFIN := Lib.hid (show setN (List.replicate k 0) 0 zs k = zs by rw [← HE.out]; exact setN_all zs)
      rw [HFIN.out] at HBM
      have HBd := Lib.hid (HBM.out.fresh (Below.refl _ _).drew)
      have c1 := HBM.out.r.c0
      have c2 := HBM.out.r.c1
      have c3 := HBM.out.r.c2
      have d1 := HBd.out.r.c0
      have d2 := HBd.out.r.c1
      have d3 := HBd.out.r.c2
      have t0 := HBd.out.t.c0
      have t1 := HBd.out.t.c1
      have t2 := HBd.out.t.c2
      have tf := HBd.out.t.f
      have s0 := HBM.out.t.c0
      have s1 := HBM.out.t.c1
      have s2 := HBM.out.t.c2
      have sf := HBM.out.t.f
      have HNR := Lib.hid (show rb ≠ w.heap.size by have := HBM.out.l; omega)
      go_wp2
      go_region_held3 (fun w' => w'.cell? ⟨rb, 0, none⟩ = some (.int .i64 (k : Int)) ∧ w'.cell? ⟨rb, 1, none⟩ = some (.slice aq k cq) ∧ w'.cell? ⟨rb, 2, none⟩ = some (.int .i64 (1 + (k : Int)))) (first | with_reducible exact ⟨c1, c2, c3⟩ | with_reducible exact ⟨d1, d2, d3⟩ | with_reducible exact ⟨other3d HNR.out c1 _ _ _, other3d HNR.out c2 _ _ _, other3d HNR.out c3 _ _ _⟩) (fail)
      all_goals
        go_wp2
        have ne := own_ne_boxed HBM.out.o HBM.out.t
        have Z := ((HBM.out.t.set0 (.int .i64 (k : Int))).set1 (.slice aq k cq)).set2 (.int .i64 (1 + (k : Int)))
        have Zd : Boxed (((wr.setCell ⟨w.heap.size, 0, none⟩ (.int .i64 (k : Int))).setCell ⟨w.heap.size, 1, none⟩ (.slice aq k cq)).setCell ⟨w.heap.size, 2, none⟩ (.int .i64 (1 + (k : Int)))).drew w.heap.size (.int .i64 (k : Int)) (.slice aq k cq) (.int .i64 (1 + (k : Int))) := Z
        have hM := HBM.out.m
        have hp : w.heap.size ≠ p := by
          rintro e
          have e1 := hM.block
          have e2 := HBM.out.t
          unfold Boxed at e2
          rw [← e, e2] at e1
          simp at e1
        have hv := own_ne_boxed hM.own HBM.out.t
        refine bodyPost_ret (v := .tuple #[.pointer (some ⟨p, 0, none⟩), .agg #[.int .i64 (k : Int), .slice aq k cq, .int .i64 (1 + (k : Int))]]) (by simp [results, Try.results15, go_sem, Zd.c0, Zd.c1, Zd.c2]) rfl ⟨p, .slice aq k cq, v, by rw [HE.out], ?_, ?_, HBM.out.n, ?_⟩
        · rw [HE.out]
          exact (((hM.setOther (q := ⟨w.heap.size, 0, none⟩) hp hv _).setOther (q := ⟨w.heap.size, 1, none⟩) hp hv _).setOther (q := ⟨w.heap.size, 2, none⟩) hp hv _).drew
        · exact ownsRow_setCell_other (ownsRow_setCell_other (ownsRow_setCell_other HBM.out.o ne _) ne _) ne _
        · exact (((HBM.out.b.setCell (Nat.le_refl _) _).setCell (Nat.le_refl _) _).setCell (Nat.le_refl _) _).drew

end Go.Proofs.Ytfnjbbokbdddpaa.M2
