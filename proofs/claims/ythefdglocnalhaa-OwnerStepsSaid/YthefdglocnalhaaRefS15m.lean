/-
  Step of reaperref15: its boxes, and the places at which nothing is done. Conditions: a document's memory of at most 1000 cells; steps below a million.
-/
import Derived.Test.YthefdglocnalhaaRefK15m
import Derived.Test.YthefdglocnalhaaStep15m
namespace Go.Proofs.Ythefdglocnalhaa.M2
open Go.RowKit

section
variable {w : World} {B : Nat} {u : Value} {size : Int} {zs : List Int} {st : Int} {t : Th}

/-- The boxes at the beginning: as publish's, and one for a result. -/
structure QB (w : World) (B : Nat) (u : Value) (size : Int) (zs : List Int) (st : Int) (t : Th) (b : Value) (W : World) : Prop where
  o : W.ownsRow B 2 1 u zs.length (zs.map (Value.int .i64))
  m : Boxed W w.heap.size (.int .i64 size) u (.int .i64 st)
  x : TX W (w.heap.size + 1) t b
  y : Boxed W (w.heap.size + 1 + 1) (.int .i64 0) (.slice none 0 0) (.int .i64 0)
  z : TX W (w.heap.size + 1 + 1 + 1) t0 (.slice none 0 0)
  r : RB W (w.heap.size + 1 + 1 + 1 + 1) 0 0
  b : Below w.heap.size w W
  s : W.heap.size = w.heap.size + 5

theorem QB.new (h : w.ownsRow B 2 1 u zs.length (zs.map (Value.int .i64))) (t : Th) (b : Value) : ∀ W, ((((w.alloc (.cells #[.int .i64 size, u, .int .i64 st] 37)).alloc (.cells #[.int .i64 t.ti, .int .i64 t.pc, .int .i64 t.rc, .int .i64 t.sq, .int .i64 t.wo, .int .i64 t.lk, .int .i64 t.cu, .int .i64 t.pv, .int .i64 t.nt, .int .i64 t.mx, .int .i64 t.ps, .int .i64 t.rn, b] 25)).alloc (.cells #[.int .i64 0, .slice none 0 0, .int .i64 0] 37)).alloc (.cells #[.int .i64 0, .int .i64 0, .int .i64 0, .int .i64 0, .int .i64 0, .int .i64 0, .int .i64 0, .int .i64 0, .int .i64 0, .int .i64 0, .int .i64 0, .int .i64 0, .slice none 0 0] 25)).alloc (.cells #[.int .u8 0, .int .i32 0] 49) = W → QB w B u size zs st t b W := by
  rintro W rfl
  obtain ⟨W1, hW1⟩ : ∃ W1, (((w.alloc (.cells #[.int .i64 size, u, .int .i64 st] 37)).alloc (.cells #[.int .i64 t.ti, .int .i64 t.pc, .int .i64 t.rc, .int .i64 t.sq, .int .i64 t.wo, .int .i64 t.lk, .int .i64 t.cu, .int .i64 t.pv, .int .i64 t.nt, .int .i64 t.mx, .int .i64 t.ps, .int .i64 t.rn, b] 25)).alloc (.cells #[.int .i64 0, .slice none 0 0, .int .i64 0] 37)).alloc (.cells #[.int .i64 0, .int .i64 0, .int .i64 0, .int .i64 0, .int .i64 0, .int .i64 0, .int .i64 0, .int .i64 0, .int .i64 0, .int .i64 0, .int .i64 0, .int .i64 0, .slice none 0 0] 25) = W1 := ⟨_, rfl⟩
  have p := PB.new h t b W1 hW1
  rw [hW1]
  have hb : Below W1.heap.size W1 (W1.alloc (.cells #[.int .u8 0, .int .i32 0] 49)) := (Below.refl _ _).alloc (Nat.le_refl _) _
  refine ⟨p.o.alloc _, p.m.keep hb, p.x.keep hb, p.y.keep hb, p.z.keep hb, ?_, p.b.trans (hb.mono p.b.size), by simp [p.s]⟩
  have := RB.new W1 0 0
  rw [p.s] at this
  exact this

/-- Behind the memory's call, what it told in a box of its own. -/
theorem QB.call {W w2 w3 : World} {b u' : Value} {zs' : List Int} {st' : Int} (h : QB w B u size zs st t b W) (l : Left W B u zs' u' w2) (e : w2.alloc (.cells #[.int .i64 size, u', .int .i64 st'] 37) = w3) :
    PF w B w2.heap.size (w.heap.size + 1) (w.heap.size + 1 + 1) (w.heap.size + 1 + 1 + 1) u size u' zs' st' t b w3 ∧ RB w3 (w.heap.size + 1 + 1 + 1 + 1) 0 0 := by
  subst e
  obtain ⟨o, lt, bl⟩ := l
  have hb := bl.alloc bl.size (.cells #[.int .i64 size, u', .int .i64 st'] 37)
  exact ⟨⟨o.alloc _, fun g hg => (lt g hg).imp id (fun h1 => by have := h.s; omega), Boxed.new _ _ _ _, h.x.keep hb, h.y.keep hb, h.z.keep hb, h.b.trans (hb.mono h.b.size), by omega, by omega, by omega, by omega, by omega⟩, h.r.keep hb⟩

/-- All three boxes are written. -/
theorem PF.fin3 {w4 : World} {N b1 b2 b3 b4 : Nat} {u' : Value} {zs' : List Int} {st' : Int} {T : Th} {b : Value} (h : PF w B N b1 b2 b3 u size u' zs' st' T b w4) (r : RB w4 b4 0 0) (n2 : b4 ≠ b2) (n3 : b4 ≠ b3) (g4 : w.heap.size ≤ b4) (k v : Int) :
    Boxed (((setT (setM w4 b2 (.int .i64 size) u' (.int .i64 st')) b3 T b).setCell ⟨b4, 0, none⟩ (.int .u8 k)).setCell ⟨b4, 1, none⟩ (.int .i32 v)) b2 (.int .i64 size) u' (.int .i64 st') ∧ TX (((setT (setM w4 b2 (.int .i64 size) u' (.int .i64 st')) b3 T b).setCell ⟨b4, 0, none⟩ (.int .u8 k)).setCell ⟨b4, 1, none⟩ (.int .i32 v)) b3 T b ∧
      RB (((setT (setM w4 b2 (.int .i64 size) u' (.int .i64 st')) b3 T b).setCell ⟨b4, 0, none⟩ (.int .u8 k)).setCell ⟨b4, 1, none⟩ (.int .i32 v)) b4 k v ∧ Left w B u zs' u' (((setT (setM w4 b2 (.int .i64 size) u' (.int .i64 st')) b3 T b).setCell ⟨b4, 0, none⟩ (.int .u8 k)).setCell ⟨b4, 1, none⟩ (.int .i32 v)) := by
  obtain ⟨f1, f2, o, l, bl⟩ := h.fin
  have r1 : RB (setT (setM w4 b2 (.int .i64 size) u' (.int .i64 st')) b3 T b) b4 0 0 := (setT_other _ n3 _ _).trans ((setM_other w4 n2 _ _ _).trans r)
  have r2 := r1.set2 k v
  refine ⟨(f1.other (q := ⟨b4, 0, none⟩) n2 _).other (q := ⟨b4, 1, none⟩) n2 _, (f2.other (q := ⟨b4, 0, none⟩) n3 _).other (q := ⟨b4, 1, none⟩) n3 _, r2, own_at o ?_, l, (bl.setCell g4 _).setCell g4 _⟩
  intro g cs hg
  have ne : g ≠ b4 := by
    rintro rfl
    unfold RB at r1
    rw [hg] at r1
    simp at r1
  exact (Below.heap_setCell _ _ _ _ ne).trans (Below.heap_setCell _ _ _ _ ne)

theorem PF.fresh {w4 w5 : World} {N b1 b2 b3 : Nat} {u' : Value} {zs' : List Int} {st' : Int} {T : Th} {b : Value} (h : PF w B N b1 b2 b3 u size u' zs' st' T b w4) (hb : Below w4.heap.size w4 w5) : PF w B N b1 b2 b3 u size u' zs' st' T b w5 :=
  ⟨own_keep h.o hb, h.l, h.m.keep hb, h.x.keep hb, h.y.keep hb, h.z.keep hb, h.b.trans (hb.mono h.b.size), h.g1, h.g2, h.g3, h.n23, h.n13⟩

/-- What Step tells. -/
def SPost (w : World) (B : Nat) (u : Value) (size : Int) (t : Th) (b : Value) (zs : List Int) (st : Int) (e : Ending) (w' : World) : Prop :=
  ∃ u', e = .returned (.tuple #[.agg #[.int .i64 size, u', .int .i64 (st + (stp size t zs).c)], thV (stp size t zs).t b, .agg #[.int .u8 (stp size t zs).k, .int .i32 (stp size t zs).v], .bool (stp size t zs).d]) ∧ Left w B u (stp size t zs).zs u' w'
end

end Go.Proofs.Ythefdglocnalhaa.M2
