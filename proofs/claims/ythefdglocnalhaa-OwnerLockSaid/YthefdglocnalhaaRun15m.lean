/-
  A thread's box beside the memory that it steps at. Conditions: none.
-/
import Derived.Test.YthefdglocnalhaaKno15m
import Derived.Test.YthefdglocnalhaaClmPl15m
namespace Go.Proofs.Ythefdglocnalhaa.M2
open Go.RowKit

/-- The box gt of a thread T beside a memory. -/
structure RR (w : World) (p gt : Nat) (size : Int) (T : Th) (zs : List Int) (st : Int) (wr : World) : Prop where
  m : Mem1 wr w.heap.size p size zs st
  x : TX wr gt T (.slice none 0 0)
  b : Below w.heap.size w wr
  g1 : w.heap.size ≤ gt

section
variable {w a b : World} {p gt : Nat} {size : Int} {T : Th} {zs : List Int} {st : Int}
theorem RR.fresh (h : RR w p gt size T zs st a) (hb : Below a.heap.size a b) : RR w p gt size T zs st b := ⟨h.m.keep hb, h.x.keep hb, h.b.trans (hb.mono h.b.size), h.g1⟩
theorem RR.to {zs' : List Int} {st' : Int} (h : RR w p gt size T zs st a) (m : Mem1 b w.heap.size p size zs' st') (hb : Below w.heap.size a b) (k : Kept a b) : RR w p gt size T zs' st' b := ⟨m, h.x.off k, h.b.trans hb, h.g1⟩
theorem RR.drewN (h : RR w p gt size T zs st a) (n : Nat) : RR w p gt size T zs st (a.drewN n) := h.fresh (below_drewN (Below.refl _ _) _)
/-- The thread is written anew. -/
theorem RR.put (h : RR w p gt size T zs st a) (T' : Th) : RR w p gt size T' zs st (setT a gt T' (.slice none 0 0)) := ⟨h.m.setT h.x _ _, h.x.all _ _, setT_below h.b h.g1 _ _, h.g1⟩
theorem RR.storeR (h : RR w p gt size T zs st a) (i x : Int) (h0 : 0 ≤ i) (h1 : i < zs.length) (k0 : 0 ≤ st) (k1 : st < 1000000) :
    Calls Try.prog 19 #[.pointer (some ⟨p, 0, none⟩), .int .i64 i, .int .i64 x] a fun e w' => e = .returned (.int .u16 0) ∧ RR w p gt size T (zs.set i.toNat x) (st + 1) w' :=
  (storeK h.m i x h0 h1 k0 k1).mono fun _ _ ⟨he, m, b, k⟩ => ⟨he, h.to m b k⟩
theorem RR.stepR (h : RR w p gt size T zs st a) (t : Th) (hr : ad t.rc 0 = t.rc) (k0 : 0 ≤ st) (k1 : st < 1000000) :
    Calls Try.prog 21 #[.pointer (some ⟨p, 0, none⟩), thN t] a fun e w' => e = .returned (.tuple #[thN (stp size t zs).t, .agg #[.int .u8 (stp size t zs).k, .int .i32 (stp size t zs).v], .bool (stp size t zs).d]) ∧ RR w p gt size T (stp size t zs).zs (st + (stp size t zs).c) w' :=
  (stepK h.m t hr k0 k1).mono fun _ _ ⟨he, m, b, k⟩ => ⟨he, h.to m b k⟩
theorem RR.loadR (h : RR w p gt size T zs st a) (i : Int) (h0 : 0 ≤ i) (h1 : i < zs.length) (k0 : 0 ≤ st) (k1 : st < 1000000) :
    Calls Try.prog 26 #[.pointer (some ⟨p, 0, none⟩), .int .i64 i] a fun e w' => e = .returned (.tuple #[.int .i64 (zs.getD i.toNat 0), .int .u16 0]) ∧ RR w p gt size T zs (st + 1) w' := by
  obtain ⟨v, m⟩ := h.m
  exact (loadIn m i h0 h1 k0 k1).mono fun e w' ⟨he, d⟩ => ⟨he, h.to (d.one m).1 (d.one m).2 (d.kept m)⟩
end

end Go.Proofs.Ythefdglocnalhaa.M2
