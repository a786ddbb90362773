/-
  What New, Alloc, Cells and Copy of package cells do, at every memory and at nil. Conditions: a memory as Mem says; steps below a million.
-/
import Derived.Test.YteebmcldmiemnaaCellsB
namespace Go.Proofs.Yteebmcldmiemnaa
open Go.RowKit

theorem infoInt64 : (Try.prog.info? 2).map (fun i => (i.zero, i.size, i.bytes)) = some (some (.int .i64 0), 1, 8) := by kernel_rfl

/-- SIZE: what is asked, from 0 to 1000. -/
def sizeOf' (n : Int) : Int := if n < 0 then 0 else if 1000 < n then 1000 else n
theorem sizeOf'_in (n : Int) : 0 ≤ sizeOf' n ∧ sizeOf' n ≤ 1000 := by unfold sizeOf'; repeat' split
                                                                      all_goals omega

theorem newAny (n : Int) (w : World) :
    Calls Try.prog 11 #[.int .i64 n] w fun e w' => e = .returned (.pointer (some ⟨w.heap.size, 0, none⟩)) ∧ Mem w' w.heap.size w.heap.size (.slice none 0 0) (sizeOf' n) [] 0 ∧ Below w.heap.size w w' := by
  have hb := sizeOf'_in n
  have fin : ∀ W, w.alloc (.cells #[.int .i64 (sizeOf' n), .slice none 0 0, .int .i64 0] 56) = W → Mem W w.heap.size w.heap.size (.slice none 0 0) (sizeOf' n) [] 0 ∧ Below w.heap.size w W := by
    rintro W rfl
    exact ⟨⟨heap_alloc_new w _, Nat.le_refl _, World.ownsRow_nil _ _ _ _, hb.1, hb.2, by simpa using hb.1⟩, (Below.refl _ _).alloc (Nat.le_refl _) _⟩
  have HF := Lib.hid fin
  clear fin hb
  rcases (show n < 0 ∨ 1000 < n ∨ (0 ≤ n ∧ n ≤ 1000) from by omega) with h | h | ⟨h, h'⟩
  · have e0 : sizeOf' n = 0 := by unfold sizeOf'; rw [if_pos h]
    rw [e0] at HF ⊢
    clear e0
    go_enter Try.func11, Try.ntmps11
    go_wp2
    go_ret
    exact ⟨rfl, HF.out _ rfl⟩
  · have e0 : sizeOf' n = 1000 := by unfold sizeOf'; rw [if_neg (by omega), if_pos h]
    rw [e0] at HF ⊢
    clear e0
    go_enter Try.func11, Try.ntmps11
    go_wp2
    go_ret
    exact ⟨rfl, HF.out _ rfl⟩
  · have e0 : sizeOf' n = n := by unfold sizeOf'; rw [if_neg (by omega), if_neg (by omega)]
    rw [e0] at HF ⊢
    clear e0
    go_enter Try.func11, Try.ntmps11
    go_wp2
    go_ret
    exact ⟨rfl, HF.out _ rfl⟩

end Go.Proofs.Yteebmcldmiemnaa
