/-
  What a call on a memory leaves of all blocks that are neither a memory nor a list of int64: it is as it was. Conditions: a memory as Mem1 says; steps below a million.
-/
import Derived.Test.YteckfbghldlkgaaEq13m
namespace Go.Proofs.Yteckfbghldlkgaa.M2
open Go.RowKit

/-- Whatever is neither a memory nor a list of int64 is as it was. -/
def Kept (w w' : World) : Prop := ∀ (N : Nat) (cs : Array Value) (t : TypeId), w.heap[N]? = some (Obj.cells cs t (0, 0)) → t ≠ 2 → t ≠ 66 → w'.heap[N]? = some (Obj.cells cs t (0, 0))

theorem Kept.refl (w : World) : Kept w w := fun _ _ _ h _ _ => h
theorem Kept.trans {a b c : World} (h : Kept a b) (k : Kept b c) : Kept a c := fun N cs t e h1 h2 => k N cs t (h N cs t e h1 h2) h1 h2
theorem keptOf {a b : World} (h : Below a.heap.size a b) : Kept a b := fun N _ _ e _ _ => (h.block N (lt_of_block e)).trans e

theorem Did.kept {w w' : World} {B p : Nat} {v : Value} {size size' : Int} {zs zs' : List Int} {st st' : Int} (m : Mem w B p v size zs st) (d : Did B p v size' zs' st' w w') : Kept w w' := by
  obtain ⟨v', _, wr, _⟩ := d
  intro N cs t e h1 h2
  refine (wr.block N (lt_of_block e) ?_ ?_).trans e
  · rintro rfl
    have := m.block
    rw [e] at this
    simp only [Option.some.injEq, Obj.cells.injEq] at this
    exact h2 this.2.1
  · intro hv
    rcases m.own.2 with ⟨rfl, _⟩ | ⟨g, cap, cur, rfl, _, hg, _⟩
    · simp [Value.ownBlock] at hv
    · simp only [Value.ownBlock, Option.some.injEq] at hv
      subst hv
      rw [e] at hg
      simp only [Option.some.injEq, Obj.cells.injEq] at hg
      exact h1 hg.2.1

theorem RB.off {w w' : World} {g : Nat} {c x : Int} (h : RB w g c x) (k : Kept w w') : RB w' g c x := k _ _ _ h (by decide) (by decide)
theorem B5.off {w w' : World} {N : Nat} {t : TypeId} {a b c d e : Int} (h : B5 w N t a b c d e) (h1 : t ≠ 2) (h2 : t ≠ 66) (k : Kept w w') : B5 w' N t a b c d e := k _ _ _ h h1 h2

section
variable {w : World} {B p : Nat} {size : Int} {zs : List Int} {st : Int}
theorem storeK (h : Mem1 w B p size zs st) (a x : Int) (h0 : 0 ≤ a) (h1 : a < zs.length) (k0 : 0 ≤ st) (k1 : st < 1000000) :
    Calls Try.prog 19 #[.pointer (some ⟨p, 0, none⟩), .int .i64 a, .int .i64 x] w fun e w' => e = .returned (.int .u16 0) ∧ Mem1 w' B p size (zs.set a.toNat x) (st + 1) ∧ Below B w w' ∧ Kept w w' := by
  obtain ⟨v, m⟩ := h
  exact (storeIn m a x h0 h1 k0 k1).mono fun e w' ⟨he, d⟩ => ⟨he, (d.one m).1, (d.one m).2, d.kept m⟩

theorem allocK (h : Mem1 w B p size zs st) (n : Int) (h0 : 0 ≤ n) (h1 : n ≤ size - zs.length) (k0 : 0 ≤ st) (k1 : st < 1000000) :
    Calls Try.prog 16 #[.pointer (some ⟨p, 0, none⟩), .int .i64 n] w fun e w' => e = .returned (.tuple #[.int .i64 (zs.length : Int), .int .u16 0]) ∧ Mem1 w' B p size (zs ++ List.replicate n.toNat 0) (st + 1) ∧ Below B w w' ∧ Kept w w' := by
  obtain ⟨v, m⟩ := h
  have C := allocOk m n.toNat (by omega) k0 k1
  rw [Int.toNat_of_nonneg h0] at C
  exact C.mono fun e w' ⟨he, d⟩ => ⟨he, (d.one m).1, (d.one m).2, d.kept m⟩
end

end Go.Proofs.Yteckfbghldlkgaa.M2
