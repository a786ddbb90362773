/-
  Step and Begin of package owner of a thread without a batch; a step at a memory of which the list's place is not told. Conditions: a memory as Mem1 says; steps below a million.
-/
import Derived.Test.YthefdglocnalhaaStep15m
import Derived.Test.YthefdglocnalhaaBegin15m
namespace Go.Proofs.Ythefdglocnalhaa.M2
open Go.RowKit

/-- A thread without a batch. -/
def thN (t : Th) : Value := .agg #[.int .i64 t.ti, .int .i64 t.pc, .int .i64 t.rc, .int .i64 t.sq, .int .i64 t.wo, .int .i64 t.lk, .int .i64 t.cu, .int .i64 t.pv, .int .i64 t.nt, .int .i64 t.mx, .int .i64 t.ps, .int .i64 t.rn, .slice none 0 0]
theorem thN_eq (t : Th) : thV t (.slice none 0 0) = thN t := rfl

section
variable {w : World} {B p : Nat} {size : Int} {zs : List Int} {st : Int}
theorem stepM {v0 : Value} (m : Mem w B p v0 size zs st) (t : Th) (hr : ad t.rc 0 = t.rc) (k0 : 0 ≤ st) (k1 : st < 1000000) :
    Calls Try.prog 21 #[.pointer (some ⟨p, 0, none⟩), thN t] w fun e w' => e = .returned (.tuple #[thN (stp size t zs).t, .agg #[.int .u8 (stp size t zs).k, .int .i32 (stp size t zs).v], .bool (stp size t zs).d]) ∧ Did B p v0 size (stp size t zs).zs (st + (stp size t zs).c) w w' := by
  rw [← thN_eq]
  refine (stepO w m t none 0 0 [] (Its.zero w none) (by omega) (fun _ => rfl) hr k0 k1).mono ?_
  rintro e w' ⟨ao', cap', rfl, d, i, _, n0⟩
  obtain ⟨rfl, rfl⟩ := n0 rfl
  exact ⟨rfl, d⟩

theorem stepK (h : Mem1 w B p size zs st) (t : Th) (hr : ad t.rc 0 = t.rc) (k0 : 0 ≤ st) (k1 : st < 1000000) :
    Calls Try.prog 21 #[.pointer (some ⟨p, 0, none⟩), thN t] w fun e w' => e = .returned (.tuple #[thN (stp size t zs).t, .agg #[.int .u8 (stp size t zs).k, .int .i32 (stp size t zs).v], .bool (stp size t zs).d]) ∧ Mem1 w' B p size (stp size t zs).zs (st + (stp size t zs).c) ∧ Below B w w' ∧ Kept w w' := by
  obtain ⟨v0, m⟩ := h
  exact (stepM m t hr k0 k1).mono fun e w' ⟨he, d⟩ => ⟨he, (d.one m).1, (d.one m).2, d.kept m⟩
end

theorem beginN (w : World) (t : Th) (k v : Int) (ho : OpOk (k, v)) :
    Calls Try.prog 16 #[thN t, .agg #[.int .u8 k, .int .i32 v]] w fun e w' => e = .returned (.tuple #[thN (bgT t (wd k v)), .bool (t.pc == 0)]) ∧ Below w.heap.size w w' := by
  rw [← thN_eq]
  refine (beginO w t none 0 0 [] (Its.zero w none) (by omega) (fun _ => rfl) k v ho).mono ?_
  rintro e w' ⟨ao', cap', rfl, _, _, b, n0⟩
  obtain ⟨rfl, rfl⟩ := n0 rfl
  exact ⟨rfl, b⟩

theorem TX.off {w w' : World} {g : Nat} {t : Th} {b : Value} (h : TX w g t b) (k : Kept w w') : TX w' g t b := k _ _ _ h (by decide) (by decide)
theorem setT_kept (w : World) {g : Nat} {N : Nat} {cs : Array Value} {ty : TypeId} (h : w.heap[N]? = some (.cells cs ty (0, 0))) (hN : N ≠ g) (t : Th) (b : Value) : (setT w g t b).heap[N]? = some (.cells cs ty (0, 0)) := (setT_other w hN t b).trans h
/-- The thread's box is written anew: the memory stays. -/
theorem Mem1.setT {w : World} {B p : Nat} {size : Int} {zs : List Int} {st : Int} (h : Mem1 w B p size zs st) {g : Nat} {t0 : Th} {b0 : Value} (hx : TX w g t0 b0) (t : Th) (b : Value) : Mem1 (setT w g t b) B p size zs st := by
  obtain ⟨v, m⟩ := h
  refine ⟨v, m.keep (setT_other w ?_ t b) (fun k hk => setT_other w ?_ t b)⟩
  · intro e
    have e1 := m.block
    unfold TX at hx
    rw [e, hx] at e1
    simp at e1
  · intro e
    subst e
    rcases m.own.2 with ⟨rfl, _⟩ | ⟨g', cap, cur, rfl, _, hg', _⟩
    · simp [Value.ownBlock] at hk
    · simp only [Value.ownBlock, Option.some.injEq] at hk
      subst hk
      unfold TX at hx
      rw [hx] at hg'
      simp at hg'

end Go.Proofs.Ythefdglocnalhaa.M2
