/-
  What Cells and Copy of package cells do, at every memory and at nil: numbers in new memory, a memory in new memory; all old memory is as it was. Conditions: a memory as Mem says.
-/
import Derived.Test.YteebmcldmiemnaaCellsD
namespace Go.Proofs.Yteebmcldmiemnaa
open Go.RowKit

theorem rowWhole {w : World} {base g n : Nat} {e : TypeId} {xs : List Value} (h : w.ownsRow base e 1 (.slice (some ⟨g, 0, none⟩) n n) n xs) : w.heap[g]? = some (.cells xs.toArray e (0, 0)) := by
  rcases h.2 with ⟨h', _⟩ | ⟨g', cap', cur, h', _, hg, _, _, hcs, htake⟩
  · simp at h'
  · simp only [Value.slice.injEq, Option.some.injEq, Addr.mk.injEq, and_true, true_and] at h'
    obtain ⟨rfl, rfl⟩ := h'
    rw [hg, ← htake, List.take_of_length_le (by simp; omega)]

theorem rowOf {w : World} {base g n : Nat} {e : TypeId} {xs : List Value} (hb : base ≤ g) (hn : xs.length = n) (hm : n ≤ maxLen) (h : w.heap[g]? = some (.cells xs.toArray e (0, 0))) : w.ownsRow base e 1 (.slice (some ⟨g, 0, none⟩) n n) n xs :=
  ⟨by omega, .inr ⟨g, n, xs.toArray, rfl, hb, h, Nat.le_refl _, hm, by simp; omega, by simp [← hn]⟩⟩

theorem sizeInt64 : (Try.prog.info? 2).map (·.size) = some 1 := by kernel_rfl

theorem madeFacts {w w1 : World} {g n : Nat} {ao : Option Addr} {Z : List Value} (ho : w1.ownsRow w.heap.size 2 1 (.slice (some ⟨g, 0, none⟩) n n) n (madeCells (Value.int .i64 0).cells (n * 1)).toList) (hg : w.grownBy w1 none)
    (hs : 0 < Z.length → ∃ ad, ao = some ad ∧ ∀ j u, Z[j]? = some u → w.cell? (ad.add j) = some u) :
    w1.heap[g]? = some (.cells (List.replicate n (.int .i64 0)).toArray 2 (0, 0)) ∧ (0 < Z.length → ∃ ad, ao = some ad ∧ ∀ j u, Z[j]? = some u → w1.cell? (ad.add j) = some u) ∧ Below w.heap.size w w1 := by
  refine ⟨?_, ?_, (Below.refl _ _).grown hg (Nat.le_refl _) (by simp)⟩
  · have := rowWhole ho
    rw [show (Value.int .i64 0).cells = #[Value.int .i64 0] from rfl, Nat.mul_one, toList_madeCells_one] at this
    exact this
  · intro hp
    obtain ⟨ad, rfl, hc⟩ := hs hp
    exact ⟨ad, rfl, fun j u hu => hg.cell (hc j u hu) (by simp)⟩

section
variable {w : World} {B p : Nat} {v : Value} {size : Int} {zs : List Int} {st : Int}

set_option maxHeartbeats 1600000 in
theorem cellsAny (h : Mem w B p v size zs st) :
    Calls Try.prog 16 #[.pointer (some ⟨p, 0, none⟩)] w fun e w' => e = .returned (.slice (some ⟨w.heap.size, 0, none⟩) zs.length zs.length) ∧
      w'.ownsRow w.heap.size 2 1 (.slice (some ⟨w.heap.size, 0, none⟩) zs.length zs.length) zs.length (zs.map (Value.int .i64)) ∧ Below w.heap.size w w' := by
  obtain ⟨ao, cap, hv⟩ := h.shape
  have hs : (zs.length : Int) ≤ 1000 := by have := h.s1; have := h.room; omega
  have hs' : zs.length ≤ 1000 := by omega
  have hpl := h.lt
  have c1 := h.c1
  rw [hv] at c1
  obtain ⟨i0, hi, hz0, hz1, hz2⟩ := info_parts infoInt64
  obtain ⟨Z, hZ⟩ : ∃ Z, Z = zs.map (Value.int .i64) := ⟨_, rfl⟩
  have hsrc : 0 < Z.length → ∃ ad, ao = some ad ∧ ∀ j u, Z[j]? = some u → w.cell? (ad.add j) = some u := by
    intro hp
    subst hZ
    obtain ⟨g, cap', hv', _⟩ := h.row (by simpa using hp)
    rw [hv] at hv'
    simp only [Value.slice.injEq, true_and] at hv'
    refine ⟨⟨g, 0, none⟩, hv'.1, ?_⟩
    exact h.own.cells (g := g) (by rw [hv, hv'.1]; rfl)
  have hlen : Z.length = zs.length := by rw [hZ]; simp
  have h1c : ∀ u ∈ Z, u.oneCell' = true := by subst hZ; exact ints_oneCell _ _
  rw [← hZ]
  have HI := Lib.hid hi
  have H0 := Lib.hid hz0
  have H1 := Lib.hid hz1
  have H2 := Lib.hid hz2
  have HL := Lib.hid hlen
  have HS := Lib.hid hsrc
  have HC := Lib.hid h1c
  clear hi hz0 hz1 hz2 hlen hsrc h1c hZ h hv
  go_enter Try.func16, Try.ntmps16
  go_wp2_with (first
    | (at_make; refine wpList_make_full _ rfl _ _ 37 rfl w.heap.size 2 i0 (.int .i64 0) 1 Try.underlying37 HI.out H0.out H1.out _ _ _ _ zs.length rfl rfl (by simp) (by simp) (by rw [H2.out]; omega) (by unfold maxLen; omega) (Nat.le_refl _) ?_; intro w1 ho hg; have c1' := hg.cell c1 (by simp); have HF := Lib.hid (madeFacts ho hg HS.out); clear ho hg)
    | (with_reducible refine wpList_copy_splice rfl (.tmp 12) (.tmp 16) 37 37 rfl 2 Try.underlying37 sizeInt64 _ _ _ _ _ _ rfl rfl w.heap.size 0 (List.replicate zs.length (.int .i64 0)) 2 HF.out.1 Z (by rw [HL.out]; simp) (fun hp => ⟨rfl, HF.out.2.1 hp⟩) (by rw [HL.out]; simp) HC.out w.heap.size w HF.out.2.2 (Nat.le_refl _) ?_; intro w2 hg2 hb2))
  go_ret
  refine ⟨rfl, ?_, hb2⟩
  have hb := hg2.out
  refine rowOf (Nat.le_refl _) HL.out (by unfold maxLen; omega) ?_
  rw [hb]
  simp [splice, HL.out]

theorem cellsNil (w : World) :
    Calls Try.prog 16 #[.pointer none] w fun e w' => e = .returned (.slice none 0 0) ∧ w = w' := by
  go_enter Try.func16, Try.ntmps16
  go_wp2
  go_ret
  exact ⟨rfl, rfl⟩

/-- What Copy leaves: a memory in new memory. -/
def Copied (w : World) (size : Int) (zs : List Int) (st : Int) (e : Ending) (w' : World) : Prop :=
  ∃ q, e = .returned (.pointer (some ⟨q, 0, none⟩)) ∧ Mem w' w.heap.size q (.slice (some ⟨w.heap.size, 0, none⟩) zs.length zs.length) size zs st ∧ Below w.heap.size w w'

theorem copied_mk {w1 : World} (s0 : 0 ≤ size) (s1 : size ≤ 1000) (hr : (zs.length : Int) ≤ size) (ho : w1.ownsRow w.heap.size 2 1 (.slice (some ⟨w.heap.size, 0, none⟩) zs.length zs.length) zs.length (zs.map (Value.int .i64))) (hb : Below w.heap.size w w1) :
    Copied w size zs st (.returned (.pointer (some ⟨w1.heap.size, 0, none⟩))) (w1.alloc (.cells #[.int .i64 size, .slice (some ⟨w.heap.size, 0, none⟩) zs.length zs.length, .int .i64 st] 56)) :=
  ⟨_, rfl, ⟨heap_alloc_new w1 _, hb.size, ho.alloc _, s0, s1, hr⟩, hb.alloc hb.size _⟩

set_option maxHeartbeats 1600000 in
theorem copyAny (h : Mem w B p v size zs st) :
    Calls Try.prog 19 #[.pointer (some ⟨p, 0, none⟩)] w (Copied w size zs st) := by
  have C := cellsAny h.drew
  have s0 := h.s0
  have s1 := h.s1
  have hr := h.room
  have c0 := h.c0
  have c2 := h.c2
  have hpl := h.lt
  have H := Lib.hid h
  clear h
  go_enter Try.func19, Try.ntmps19
  go_wp2
  go_region_with ((go_at_call 16; refine C.mono ?_; rintro e w1 ⟨rfl, ho, hb⟩; have c0' : w1.cell? ⟨p, 0, none⟩ = some (.int .i64 size) := (hb.cell (p := ⟨p, 0, none⟩) hpl).trans c0; have c2' : w1.cell? ⟨p, 2, none⟩ = some (.int .i64 st) := (hb.cell (p := ⟨p, 2, none⟩) hpl).trans c2; have HO := Lib.hid ho; have HB := Lib.hid hb; clear ho hb))
  all_goals go_wp2
  all_goals go_ret
  all_goals exact copied_mk s0 s1 hr HO.out ⟨HB.out.os, HB.out.tape, HB.out.output, HB.out.size, HB.out.block⟩

theorem copyNil (w : World) :
    Calls Try.prog 19 #[.pointer none] w fun e w' => e = .returned (.pointer (some ⟨w.heap.size, 0, none⟩)) ∧ Mem w' w.heap.size w.heap.size (.slice none 0 0) 0 [] 0 ∧ Below w.heap.size w w' := by
  have N := newAny 0 w
  go_enter Try.func19, Try.ntmps19
  go_wp2_with (go_at_call 11; refine N.mono ?_; rintro e w' ⟨rfl, hm, hb⟩; have HM := Lib.hid hm; have HB := Lib.hid hb; clear hm hb)
  go_ret
  exact ⟨rfl, HM.out, HB.out⟩
end

end Go.Proofs.Yteebmcldmiemnaa
