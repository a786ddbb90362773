/-
  rowOf of package ends: a new row. Conditions: at most a million operations.
-/
import Derived.Test.YtafocplahmfghaaSlots10
import Derived.Test.YtafocplahmfghaaRep10
import Derived.Deep.CutRange
namespace Go.Proofs.Ytafocplahmfghaa
open Go.RowKit

theorem litOne (w : World) (v : Int) : ∀ W, w.alloc (.cells #[.int .i64 v] 3) = W → W.cell? ⟨w.heap.size, 0, none⟩ = some (.int .i64 v) ∧ Below w.heap.size w W := by
  rintro W rfl
  exact ⟨by go_simp, (Below.refl _ _).alloc (Nat.le_refl _) _⟩

/-- A new row. -/
def NewRow (w : World) (t : Nat) (most : Int) (n : Nat) (e : Ending) (w' : World) : Prop :=
  ∃ p g h, e = .returned (.pointer (some ⟨p, 0, none⟩)) ∧ Slots w' p most g h n t 0 (List.replicate t (-1)) (List.replicate n (-1)) ∧ w.heap.size ≤ p ∧ w.heap.size ≤ g ∧ w.heap.size ≤ h ∧ Below w.heap.size w w'

theorem newSlots {w w4 : World} {g h t n : Nat} {most : Int} (hb : Below w.heap.size w w4) (hg : w.heap.size ≤ g) (hgh : g < h) (rg : Rw w4 g .i64 3 (List.replicate (n + t + n) (-1))) (rh : Rw w4 h .i64 3 (List.replicate n (-1))) :
    NewRow w t most n (.returned (.pointer (some ⟨w4.heap.size, 0, none⟩))) (w4.alloc (.cells #[.int .i64 most, .slice (some ⟨g, 0, none⟩) (n + t + n) (n + t + n), .int .i64 ((n : Int) - 1), .int .i64 (-1), .int .i64 ((n : Int) + (t : Int)), .int .i64 1, .slice (some ⟨h, 0, none⟩) n n] 70)) := by
  have lg := rg.lt
  have lh := rh.lt
  have hs := hb.size
  refine ⟨w4.heap.size, g, h, rfl, ⟨⟨_, n, SlotsOk.start n t, ?_, rg.keep (Below.heap_alloc _ _ _ lg)⟩, rh.keep (Below.heap_alloc _ _ _ lh), by simp, by omega, by omega, by omega⟩, hs, hg, by omega, hb.alloc hs _⟩
  rw [List.length_replicate, show ((n + t : Nat) : Int) = (n : Int) + (t : Int) by omega]
  exact heap_alloc_new w4 _

set_option maxRecDepth 100000 in
set_option maxHeartbeats 3200000 in
theorem rowOfAny (w : World) (t : Nat) (most : Int) (n : Nat) (ht : t ≤ 1000) (hn : n ≤ 1000000) :
    Calls Try.prog 31 #[.int .i64 t, .int .i64 most, .int .i64 n] w (NewRow w t most n) := by
  have e1 : IntKind.i64.wrap ((n : Int) + (t : Int)) = ((n + t : Nat) : Int) := by rw [IntKind.wrap_i64]; omega
  have e2 : IntKind.i64.wrap (((n + t : Nat) : Int) + (n : Int)) = ((n + t + n : Nat) : Int) := by rw [IntKind.wrap_i64]; omega
  have e3 : IntKind.i64.wrap ((n : Int) - 1) = (n : Int) - 1 := by rw [IntKind.wrap_i64]; omega
  go_enter Try.func31, Try.ntmps31
  go_wp2_with fail
  generalize hW : w.alloc (.cells #[.int .i64 (-1)] 3) = W1
  obtain ⟨c1, b1⟩ := litOne w (-1) W1 hW
  clear hW
  have C := repeatAny W1 w.heap.size (-1) (n + t + n) (by omega) c1
  rw [show ((n + t + n : Nat) : Int) = (n : Int) + (t : Int) + (n : Int) by omega] at C
  refine C.mono ?_
  clear C
  rintro e w2 ⟨g, rfl, r2, g2, b2⟩
  have HB1 := Lib.hid b1
  have HB2 := Lib.hid (b1.trans (b2.mono b1.size))
  have HG := Lib.hid (show w.heap.size ≤ g from Nat.le_trans b1.size g2)
  have HR := Lib.hid r2
  clear c1 b1 b2 r2 g2
  go_wp2_with fail
  generalize hW : w2.alloc (.cells #[.int .i64 (-1)] 3) = W3
  obtain ⟨c3, b3⟩ := litOne w2 (-1) W3 hW
  clear hW
  have C := repeatAny W3 w2.heap.size (-1) n (by omega) c3
  refine C.mono ?_
  clear C
  rintro e w4 ⟨h, rfl, r4, g4, b4⟩
  have HB4 := Lib.hid (HB2.out.trans ((b3.trans (b4.mono b3.size)).mono HB2.out.size))
  have HR4 := Lib.hid (HR.out.below (b3.trans (b4.mono b3.size)))
  have HH := Lib.hid (show w2.heap.size ≤ h from Nat.le_trans b3.size g4)
  have HH4 := Lib.hid r4
  have HL := Lib.hid HR.out.lt
  clear c3 b3 b4 r4 g4 HR HB1 HB2 e2
  go_wp2
  go_ret
  exact newSlots HB4.out HG.out (Nat.lt_of_lt_of_le HL.out HH.out) HR4.out HH4.out

end Go.Proofs.Ytafocplahmfghaa
