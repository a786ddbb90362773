/-
  Who claims a place while it is served, or is not served, in plain numbers (OwnerLate); a result's box beside the thread's. Conditions: none.
-/
import Derived.Test.YthefdglocnalhaaTldPl15m
import Derived.Test.YthefdglocnalhaaRun15m
namespace Go.Proofs.Ythefdglocnalhaa.M2
open Go.RowKit

/-- Behind k steps of a state. -/
def itS (size : Int) (s : Th × List Int × Int) : Nat → Th × List Int × Int
  | 0 => s
  | k + 1 => one size (itS size s k)
def lt0 (W : Int) : Th × List Int × Int := (bgT t0 W, [0, 0, 0], 1)
theorem lt0I (W : Int) : ∀ k, k < 3 → ad (itS 13 (lt0 W) k).1.rc 0 = (itS 13 (lt0 W) k).1.rc ∧ 0 ≤ (itS 13 (lt0 W) k).2.2 ∧ (itS 13 (lt0 W) k).2.2 ≤ 30 := by
  intro k hk
  rcases (show k = 0 ∨ k = 1 ∨ k = 2 from by omega) with rfl | rfl | rfl <;> simp [itS, lt0, begun0, s1, s2, ad30, ad00]
theorem lt0E (W : Int) : itS 13 (lt0 W) 3 = (⟨0, 6, 3, 1, W, 0, 0, 0, 0, 0, 0, 0⟩, [0, 0, 0, W, 0, 0, 0, 0], 4) := by simp [itS, lt0, begun0, s1, s2, s3]

/-- It was served, and closed; it was not. -/
def ltY (W o R : Int) : Th × List Int × Int := (⟨0, 6, 3, 1, W, 0, 0, 0, 0, 0, 0, 0⟩, [0, o, 0, -1, 0, 0, 0, R], 7)
def ltN (W o : Int) : Th × List Int × Int := (⟨0, 6, 3, 1, W, 0, 0, 0, 0, 0, 0, 0⟩, [0, o, 0, W, 0, 0, 0, 0], 5)
section
variable (W o R st : Int)
theorem u2 (hW : 0 < W) : one 13 (⟨0, 15, 3, 1, W, 0, 0, 0, 0, 0, 0, 0⟩, [0, o, 0, -1, 2, 0, 0, R], st) = (⟨0, 16, 3, 1, W, -1, 0, 0, 0, 0, 0, 0⟩, [0, o, 0, -1, 2, 0, 0, R], st + 1) := by
  have h : ((-1 : Int) == W) = false := by simp; omega
  simp [one, stp, ld, cn, fk, h]
theorem u3 : one 13 (⟨0, 16, 3, 1, W, -1, 0, 0, 0, 0, 0, 0⟩, [0, o, 0, -1, 2, 0, 0, R], st) = (⟨0, 11, 3, 1, W, -1, 0, 0, 0, 0, 0, 0⟩, [0, o, 0, -1, 0, 0, 0, R], st + 1) := by
  simp [one, stp, ad31, sto, cn]
theorem u4 (hW : 0 < W) : one 13 (⟨0, 11, 3, 1, W, -1, 0, 0, 0, 0, 0, 0⟩, [0, o, 0, -1, 0, 0, 0, R], st) = (⟨0, 14, 3, 1, W, -1, 0, 0, 0, 0, 0, 0⟩, [0, o, 0, -1, 0, 0, 0, R], st + 1) := by
  have h : ((-1 : Int) == W) = false := by simp; omega
  simp [one, stp, ld, cn, fk, h]
theorem u5 : one 13 (⟨0, 14, 3, 1, W, -1, 0, 0, 0, 0, 0, 0⟩, [0, o, 0, -1, 0, 0, 0, R], st) = (⟨0, 0, 3, 1, 0, R, 0, 0, 0, 0, 0, 0⟩, [0, o, 0, -1, 0, 0, 0, R], st + 1) := by
  simp [one, stp, ad34, ld, cn]

theorem ltYI (hW : 0 < W) : ∀ k, k < 5 → ad (itS 13 (ltY W o R) k).1.rc 0 = (itS 13 (ltY W o R) k).1.rc ∧ (0 ≤ (itS 13 (ltY W o R) k).2.2 ∧ (itS 13 (ltY W o R) k).2.2 ≤ 60) ∧
    (stp 13 (itS 13 (ltY W o R) k).1 (itS 13 (ltY W o R) k).2.1).d = decide (k + 1 = 5) ∧ (k + 1 = 5 → (stp 13 (itS 13 (ltY W o R) k).1 (itS 13 (ltY W o R) k).2.1).k = rK R ∧ (stp 13 (itS 13 (ltY W o R) k).1 (itS 13 (ltY W o R) k).2.1).v = rV R) := by
  intro k hk
  rcases (show k = 0 ∨ k = 1 ∨ k = 2 ∨ k = 3 ∨ k = 4 from by omega) with rfl | rfl | rfl | rfl | rfl <;> simp [itS, ltY, s4, u2, u3, u4, hW, ad30] <;> simp [stp, ld, ad34]
theorem ltYE (hW : 0 < W) : itS 13 (ltY W o R) 5 = (⟨0, 0, 3, 1, 0, R, 0, 0, 0, 0, 0, 0⟩, [0, o, 0, -1, 0, 0, 0, R], 12) := by simp [itS, ltY, s4, u2, u3, u4, u5, hW]
theorem ltNI : ∀ k, k < 7 → ad (itS 13 (ltN W o) k).1.rc 0 = (itS 13 (ltN W o) k).1.rc ∧ (0 ≤ (itS 13 (ltN W o) k).2.2 ∧ (itS 13 (ltN W o) k).2.2 ≤ 60) ∧
    (stp 13 (itS 13 (ltN W o) k).1 (itS 13 (ltN W o) k).2.1).d = false := by
  intro k hk
  rcases (show k = 0 ∨ k = 1 ∨ k = 2 ∨ k = 3 ∨ k = 4 ∨ k = 5 ∨ k = 6 from by omega) with rfl | rfl | rfl | rfl | rfl | rfl | rfl <;> simp [itS, ltN, s4, s5, s6, s7, s8, s9, ad30] <;> simp [stp]
theorem ltNE : itS 13 (ltN W o) 7 = (⟨0, 12, 3, 1, W, W, 0, 0, 0, 0, 0, 0⟩, [0, 3, 0, W, 1, 0, o, 0], 12) := by simp [itS, ltN, s4, s5, s6, s7, s8, s9, s11]
end

theorem RB.off' {w w' : World} {g : Nat} {c x : Int} (h : RB w g c x) (k : Kept w w') : RB w' g c x := k _ _ _ h (by decide) (by decide)
theorem Mem1.setR {a : World} {B p gr j : Nat} {size : Int} {zs : List Int} {st x y : Int} (h : Mem1 a B p size zs st) (hr : RB a gr x y) (u : Value) : Mem1 (a.setCell ⟨gr, j, none⟩ u) B p size zs st := by
  obtain ⟨v, m⟩ := h
  refine ⟨v, m.setOther (q := ⟨gr, j, none⟩) ?_ ?_ _⟩
  · intro e
    have e : gr = p := e
    have e1 := m.block
    unfold RB at hr
    rw [← e, hr] at e1
    simp at e1
  · intro e
    have e : v.ownBlock = some gr := e
    rcases m.own.2 with ⟨rfl, _⟩ | ⟨g', cap, cur, rfl, _, hg', _⟩
    · simp [Value.ownBlock] at e
    · simp only [Value.ownBlock, Option.some.injEq] at e
      subst e
      unfold RB at hr
      rw [hr] at hg'
      simp at hg'
theorem RR.put2 {w a : World} {p gt gr : Nat} {size : Int} {T : Th} {zs : List Int} {st x y : Int} (h : RR w p gt size T zs st a) (hr : RB a gr x y) (hne : gr ≠ gt) (g2 : w.heap.size ≤ gr) (T' : Th) (k v : Int) :
    RR w p gt size T' zs st (((setT a gt T' (.slice none 0 0)).setCell ⟨gr, 0, none⟩ (.int .u8 k)).setCell ⟨gr, 1, none⟩ (.int .i32 v)) ∧ RB (((setT a gt T' (.slice none 0 0)).setCell ⟨gr, 0, none⟩ (.int .u8 k)).setCell ⟨gr, 1, none⟩ (.int .i32 v)) gr k v := by
  have h1 := h.put T'
  have r1 : RB (setT a gt T' (.slice none 0 0)) gr x y := (setT_other a hne _ _).trans hr
  have r2 : RB ((setT a gt T' (.slice none 0 0)).setCell ⟨gr, 0, none⟩ (.int .u8 k)) gr k y := by unfold RB; rw [heap_setCell_same _ gr 0 _ _ _ r1]; rfl
  exact ⟨⟨(h1.m.setR r1 _).setR r2 _, (h1.x.other (q := ⟨gr, 0, none⟩) hne _).other (q := ⟨gr, 1, none⟩) hne _, (h1.b.setCell g2 _).setCell g2 _, h.g1⟩, r1.set2 k v⟩

theorem RR.stepKL {w a : World} {p gt : Nat} {size : Int} {T : Th} {zs : List Int} {st : Int} (h : RR w p gt size T zs st a) (t : Th) (hr : ad t.rc 0 = t.rc) (k0 : 0 ≤ st) (k1 : st < 1000000) :
    Calls Try.prog 21 #[.pointer (some ⟨p, 0, none⟩), thN t] a fun e w' => e = .returned (.tuple #[thN (stp size t zs).t, .agg #[.int .u8 (stp size t zs).k, .int .i32 (stp size t zs).v], .bool (stp size t zs).d]) ∧ RR w p gt size T (stp size t zs).zs (st + (stp size t zs).c) w' ∧ Kept a w' :=
  (stepK h.m t hr k0 k1).mono fun _ _ ⟨he, m, b, k⟩ => ⟨he, h.to m b k, k⟩

end Go.Proofs.Ythefdglocnalhaa.M2
