/-
  Two memories apart, one of them made behind the other; what came ahead of them. Conditions: none.
-/
import Derived.Test.YtfnjbbokbdddpaaG0717
import Derived.Test.YtfnjbbokbdddpaaKno17m
import Derived.Test.YtfnjbbokbdddpaaG0517
import Derived.Test.YtfnjbbokbdddpaaG0617
namespace Go.Proofs.Ytfnjbbokbdddpaa.M2
open Go.RowKit

section
variable {w w' : World} {N N2 q p : Nat} {vc r : Value} {size size2 : Int} {zs ys : List Int} {st st2 : Int}
theorem Mem.off (m : Mem w N q vc size zs st) (wr : Wrote p r w w') (h1 : q ≠ p) (h2 : r.ownBlock ≠ some q) (h3 : ∀ g, vc.ownBlock = some g → g ≠ p ∧ r.ownBlock ≠ some g) : Mem w' N q vc size zs st :=
  m.keep (wr.block q m.lt h1 h2) (fun g hg => wr.block g (m.rowLt hg).2 (h3 g hg).1 (h3 g hg).2)
structure M2s (w : World) (N p : Nat) (v : Value) (size : Int) (zs : List Int) (st : Int) (N2 q : Nat) (v2 : Value) (size2 : Int) (ys : List Int) (st2 : Int) : Prop where
  a : Mem w N p v size zs st
  b : Mem w N2 q v2 size2 ys st2
  h0 : p ≠ q
  h1 : v.ownBlock ≠ some q
  h2 : v2.ownBlock ≠ some p
  h3 : ∀ g, v.ownBlock = some g → v2.ownBlock ≠ some g
  le : N ≤ N2
theorem M2s.new {v v2 : Value} {u : World} (m : Mem u N p v size zs st) (hb : Below u.heap.size u w) (n : Mem w N2 q v2 size2 ys st2) (h : u.heap.size ≤ N2) : M2s w N p v size zs st N2 q v2 size2 ys st2 := by
  have l1 := m.lt
  have l2 := m.low
  have l3 := n.low
  exact ⟨m.fresh hb, n, by omega, fun e => by have := (m.rowLt e).2; omega, fun e => by have := (n.rowLt e).1; omega, fun g e e2 => by have := (m.rowLt e).2; have := (n.rowLt e2).1; omega, by omega⟩
theorem M2s.fresh {v v2 : Value} (h : M2s w N p v size zs st N2 q v2 size2 ys st2) (hb : Below w.heap.size w w') : M2s w' N p v size zs st N2 q v2 size2 ys st2 :=
  ⟨h.a.fresh hb, h.b.fresh hb, h.h0, h.h1, h.h2, h.h3, h.le⟩
theorem M2s.didA {v v2 : Value} {zs' : List Int} {st' : Int} (h : M2s w N p v size zs st N2 q v2 size2 ys st2) (d : Did N p v size zs' st' w w') : ∃ v', M2s w' N p v' size zs' st' N2 q v2 size2 ys st2 := by
  obtain ⟨v', m, wr, lt⟩ := d
  have hb := h.b.off wr h.h0.symm h.h1 (fun g e => ⟨fun e2 => h.h2 (e2 ▸ e), fun e2 => h.h3 g e2 e⟩)
  have lq := h.b.lt
  have lp := h.a.lt
  refine ⟨v', m, hb, h.h0, fun e => ?_, h.h2, fun g e e2 => ?_, h.le⟩
  · rcases lt _ e with e | e
    · exact h.h1 e
    · omega
  · rcases lt _ e with e | e
    · exact h.h3 g e e2
    · have := (h.b.rowLt e2).2; omega
theorem M2s.didB {v v2 : Value} {ys' : List Int} {st' : Int} (h : M2s w N p v size zs st N2 q v2 size2 ys st2) (d : Did N2 q v2 size2 ys' st' w w') : ∃ v', M2s w' N p v size zs st N2 q v' size2 ys' st' := by
  obtain ⟨v', m, wr, lt⟩ := d
  have ha := h.a.off wr h.h0 h.h2 (fun g e => ⟨fun e2 => h.h1 (e2 ▸ e), h.h3 g e⟩)
  have lp := h.a.lt
  refine ⟨v', ha, m, h.h0, h.h1, fun e => ?_, fun g e e2 => ?_, h.le⟩
  · rcases lt _ e with e | e
    · exact h.h2 e
    · omega
  · rcases lt _ e2 with e2 | e2
    · exact h.h3 g e e2
    · have := (h.a.rowLt e).2; omega
end

theorem VR.readsW {W : World} {g : Nat} {vs : List Int} (h : VR W g vs) : Reads .i64 W (some ⟨g, 0, none⟩) vs.length vs :=
  ⟨rfl, fun _ => ⟨g, 0, rfl, h.lt, fun i hi => by rw [Nat.zero_add]; exact h.cell hi⟩⟩
theorem Reads.tail1 {W : World} {g n : Nat} {z : Int} {zs : List Int} (h : Reads .i64 W (some ⟨g, 0, none⟩) (n + 1) (z :: zs)) : Reads .i64 W (some ⟨g, 1, none⟩) n zs := by
  refine ⟨by have := h.1; simpa using this, fun hn => ?_⟩
  obtain ⟨b, off, e, hl, hc⟩ := h.2 (by omega)
  simp only [Option.some.injEq, Addr.mk.injEq] at e
  obtain ⟨rfl, rfl, _⟩ := e
  refine ⟨g, 1, rfl, hl, fun j hj => ?_⟩
  have := hc (j + 1) (by omega)
  rw [show 0 + (j + 1) = 1 + j by omega] at this
  simpa using this

end Go.Proofs.Ytfnjbbokbdddpaa.M2
