/-
  What New, Top, Steps, room, cell and count of package cells do, and the deferred functions that count: each for every memory, and for nil. Conditions: a memory as Mem says; steps below a million.
-/
import Derived.Test.YteebmcldmiemnaaMem
namespace Go.Proofs.Yteebmcldmiemnaa
open Go.RowKit

section
variable {w : World} {B p : Nat} {v : Value} {size : Int} {zs : List Int} {st : Int}

theorem topAny (h : Mem w B p v size zs st) :
    Calls Try.prog 17 #[.pointer (some ⟨p, 0, none⟩)] w fun e w' => e = .returned (.int .i64 zs.length) ∧ w = w' := by
  have c1 := h.c1
  obtain ⟨ao, cap, rfl⟩ := h.shape
  have H := Lib.hid h
  clear h
  go_enter Try.func17, Try.ntmps17
  go_wp2
  go_ret
  exact ⟨rfl, rfl⟩

theorem topNil (w : World) :
    Calls Try.prog 17 #[.pointer none] w fun e w' => e = .returned (.int .i64 0) ∧ w = w' := by
  go_enter Try.func17, Try.ntmps17
  go_wp2
  go_ret
  exact ⟨rfl, rfl⟩

theorem stepsAny (h : Mem w B p v size zs st) :
    Calls Try.prog 18 #[.pointer (some ⟨p, 0, none⟩)] w fun e w' => e = .returned (.int .i64 st) ∧ w = w' := by
  have c2 := h.c2
  have H := Lib.hid h
  clear h
  go_enter Try.func18, Try.ntmps18
  go_wp2
  go_ret
  exact ⟨rfl, rfl⟩

theorem stepsNil (w : World) :
    Calls Try.prog 18 #[.pointer none] w fun e w' => e = .returned (.int .i64 0) ∧ w = w' := by
  go_enter Try.func18, Try.ntmps18
  go_wp2
  go_ret
  exact ⟨rfl, rfl⟩

theorem roomAny (h : Mem w B p v size zs st) :
    Calls Try.prog 25 #[.pointer (some ⟨p, 0, none⟩)] w fun e w' => e = .returned (.int .i64 (size - zs.length)) ∧ ∃ n, w' = w.drewN n := by
  have c0 := h.c0
  have c1 := h.c1
  obtain ⟨ao, cap, rfl⟩ := h.shape
  have s0 := h.s0
  have s1 := h.s1
  have r := h.room
  have t : IntKind.i64.wrap (size - zs.length) = size - zs.length := IntWalk.i64_in _ (by omega)
  have H := Lib.hid h
  clear h
  go_enter Try.func25, Try.ntmps25
  go_wp2
  go_quiet (fail)
  go_wp2
  go_ret
  exact ⟨rfl, _, rfl⟩

theorem roomNil (w : World) :
    Calls Try.prog 25 #[.pointer none] w fun e w' => e = .returned (.int .i64 0) ∧ ∃ n, w' = w.drewN n := by
  go_enter Try.func25, Try.ntmps25
  go_wp2
  go_ret
  exact ⟨rfl, 0, rfl⟩

theorem cellIn (h : Mem w B p v size zs st) {g cap : Nat} (hv : v = .slice (some ⟨g, 0, none⟩) zs.length cap) (a : Int) (h0 : 0 ≤ a) (h1 : a < zs.length) :
    Calls Try.prog 27 #[.pointer (some ⟨p, 0, none⟩), .int .i64 a] w fun e w' => e = .returned (.pointer (some ⟨g, a.toNat, none⟩)) ∧ w = w' := by
  have T := topAny h
  have c1 := h.c1
  subst hv
  have H := Lib.hid h
  clear h
  have h2 : ¬ a < 0 := by omega
  go_enter Try.func27, Try.ntmps27
  go_wp2_with (go_at_call 17; refine T.mono ?_; rintro e w' ⟨rfl, rfl⟩)
  go_ret
  exact ⟨by simp, rfl⟩

theorem cellOut (h : Mem w B p v size zs st) (a : Int) (h0 : a < 0 ∨ zs.length ≤ a) :
    Calls Try.prog 27 #[.pointer (some ⟨p, 0, none⟩), .int .i64 a] w fun e w' => e = .returned (.pointer none) ∧ w = w' := by
  have T := topAny h
  clear h
  by_cases h1 : a < 0
  · clear h0
    go_enter Try.func27, Try.ntmps27
    go_wp2_with (go_at_call 17; refine T.mono ?_; rintro e w' ⟨rfl, rfl⟩)
    go_ret
    exact ⟨rfl, rfl⟩
  · have h2 : (zs.length : Int) ≤ a := by omega
    clear h0
    go_enter Try.func27, Try.ntmps27
    go_wp2_with (go_at_call 17; refine T.mono ?_; rintro e w' ⟨rfl, rfl⟩)
    go_ret
    exact ⟨rfl, rfl⟩

theorem cellNil (w : World) (a : Int) :
    Calls Try.prog 27 #[.pointer none, .int .i64 a] w fun e w' => e = .returned (.pointer none) ∧ w = w' := by
  have T := topNil w
  by_cases h1 : a < 0
  · go_enter Try.func27, Try.ntmps27
    go_wp2_with (go_at_call 17; refine T.mono ?_; rintro e w' ⟨rfl, rfl⟩)
    go_ret
    exact ⟨rfl, rfl⟩
  · have h2 : 0 ≤ a := by omega
    go_enter Try.func27, Try.ntmps27
    go_wp2_with (go_at_call 17; refine T.mono ?_; rintro e w' ⟨rfl, rfl⟩)
    go_ret
    exact ⟨rfl, rfl⟩

theorem countOk (hc : w.cell? ⟨p, 2, none⟩ = some (.int .i64 st)) (hf : w.frozen? ⟨p, 2, none⟩ = false) (h0 : 0 ≤ st) (h1 : st < 1000000) :
    Calls Try.prog 24 #[.pointer (some ⟨p, 0, none⟩), .int .u16 0] w fun e w' => e = .returned (.tuple #[]) ∧ w' = w.setCell ⟨p, 2, none⟩ (.int .i64 (st + 1)) := by
  go_enter Try.func24, Try.ntmps24
  go_wp2
  go_end0
  exact ⟨rfl, rfl⟩

theorem countErr (p : Nat) (w : World) (x : Int) (h0 : 0 < x) :
    Calls Try.prog 24 #[.pointer (some ⟨p, 0, none⟩), .int .u16 x] w fun e w' => e = .returned (.tuple #[]) ∧ w' = w := by
  have h1 : ¬ x = 0 := by omega
  go_enter Try.func24, Try.ntmps24
  go_wp2
  go_end0
  exact ⟨rfl, rfl⟩

theorem countNil (w : World) (x : Int) :
    Calls Try.prog 24 #[.pointer none, .int .u16 x] w fun e w' => e = .returned (.tuple #[]) ∧ w' = w := by
  go_enter Try.func24, Try.ntmps24
  go_wp2
  go_end0
  exact ⟨rfl, rfl⟩

theorem okAlloc {x y : Addr} (u : FrameMode) (hx : w.cell? x = some (.pointer (some ⟨p, 0, none⟩))) (hy : w.cell? y = some (.int .u16 0)) (hc : w.cell? ⟨p, 2, none⟩ = some (.int .i64 st)) (hf : w.frozen? ⟨p, 2, none⟩ = false) (h0 : 0 ≤ st) (h1 : st < 1000000) :
    CallsD Try.prog 23 #[.pointer (some x), .pointer (some y)] u w fun e u' w' => u' = u ∧ (e = .returned (.tuple #[]) ∧ w' = w.setCell ⟨p, 2, none⟩ (.int .i64 (st + 1))) := by
  have T := countOk (w := w) hc hf h0 h1
  go_enter_d Try.func23, Try.ntmps23
  go_wp2_with (go_at_call 24; refine T.mono ?_; rintro e w' ⟨rfl, rfl⟩)
  go_end0
  exact ⟨rfl, rfl⟩

theorem errAlloc {x y : Addr} (u : FrameMode) (z : Int) (h0 : 0 < z) (hx : w.cell? x = some (.pointer (some ⟨p, 0, none⟩))) (hy : w.cell? y = some (.int .u16 z)) :
    CallsD Try.prog 23 #[.pointer (some x), .pointer (some y)] u w fun e u' w' => u' = u ∧ (e = .returned (.tuple #[]) ∧ w' = w) := by
  have T := countErr p w z h0
  go_enter_d Try.func23, Try.ntmps23
  go_wp2_with (go_at_call 24; refine T.mono ?_; rintro e w' ⟨rfl, rfl⟩)
  go_end0
  exact ⟨rfl, rfl⟩

theorem nilAlloc {x y : Addr} (u : FrameMode) (z : Int) (hx : w.cell? x = some (.pointer none)) (hy : w.cell? y = some (.int .u16 z)) :
    CallsD Try.prog 23 #[.pointer (some x), .pointer (some y)] u w fun e u' w' => u' = u ∧ (e = .returned (.tuple #[]) ∧ w' = w) := by
  have T := countNil w z
  go_enter_d Try.func23, Try.ntmps23
  go_wp2_with (go_at_call 24; refine T.mono ?_; rintro e w' ⟨rfl, rfl⟩)
  go_end0
  exact ⟨rfl, rfl⟩

theorem okLoad {x y : Addr} (u : FrameMode) (hx : w.cell? x = some (.pointer (some ⟨p, 0, none⟩))) (hy : w.cell? y = some (.int .u16 0)) (hc : w.cell? ⟨p, 2, none⟩ = some (.int .i64 st)) (hf : w.frozen? ⟨p, 2, none⟩ = false) (h0 : 0 ≤ st) (h1 : st < 1000000) :
    CallsD Try.prog 29 #[.pointer (some x), .pointer (some y)] u w fun e u' w' => u' = u ∧ (e = .returned (.tuple #[]) ∧ w' = w.setCell ⟨p, 2, none⟩ (.int .i64 (st + 1))) := by
  have T := countOk (w := w) hc hf h0 h1
  go_enter_d Try.func29, Try.ntmps29
  go_wp2_with (go_at_call 24; refine T.mono ?_; rintro e w' ⟨rfl, rfl⟩)
  go_end0
  exact ⟨rfl, rfl⟩

theorem errLoad {x y : Addr} (u : FrameMode) (z : Int) (h0 : 0 < z) (hx : w.cell? x = some (.pointer (some ⟨p, 0, none⟩))) (hy : w.cell? y = some (.int .u16 z)) :
    CallsD Try.prog 29 #[.pointer (some x), .pointer (some y)] u w fun e u' w' => u' = u ∧ (e = .returned (.tuple #[]) ∧ w' = w) := by
  have T := countErr p w z h0
  go_enter_d Try.func29, Try.ntmps29
  go_wp2_with (go_at_call 24; refine T.mono ?_; rintro e w' ⟨rfl, rfl⟩)
  go_end0
  exact ⟨rfl, rfl⟩

theorem nilLoad {x y : Addr} (u : FrameMode) (z : Int) (hx : w.cell? x = some (.pointer none)) (hy : w.cell? y = some (.int .u16 z)) :
    CallsD Try.prog 29 #[.pointer (some x), .pointer (some y)] u w fun e u' w' => u' = u ∧ (e = .returned (.tuple #[]) ∧ w' = w) := by
  have T := countNil w z
  go_enter_d Try.func29, Try.ntmps29
  go_wp2_with (go_at_call 24; refine T.mono ?_; rintro e w' ⟨rfl, rfl⟩)
  go_end0
  exact ⟨rfl, rfl⟩

theorem okStore {x y : Addr} (u : FrameMode) (hx : w.cell? x = some (.pointer (some ⟨p, 0, none⟩))) (hy : w.cell? y = some (.int .u16 0)) (hc : w.cell? ⟨p, 2, none⟩ = some (.int .i64 st)) (hf : w.frozen? ⟨p, 2, none⟩ = false) (h0 : 0 ≤ st) (h1 : st < 1000000) :
    CallsD Try.prog 26 #[.pointer (some x), .pointer (some y)] u w fun e u' w' => u' = u ∧ (e = .returned (.tuple #[]) ∧ w' = w.setCell ⟨p, 2, none⟩ (.int .i64 (st + 1))) := by
  have T := countOk (w := w) hc hf h0 h1
  go_enter_d Try.func26, Try.ntmps26
  go_wp2_with (go_at_call 24; refine T.mono ?_; rintro e w' ⟨rfl, rfl⟩)
  go_end0
  exact ⟨rfl, rfl⟩

theorem errStore {x y : Addr} (u : FrameMode) (z : Int) (h0 : 0 < z) (hx : w.cell? x = some (.pointer (some ⟨p, 0, none⟩))) (hy : w.cell? y = some (.int .u16 z)) :
    CallsD Try.prog 26 #[.pointer (some x), .pointer (some y)] u w fun e u' w' => u' = u ∧ (e = .returned (.tuple #[]) ∧ w' = w) := by
  have T := countErr p w z h0
  go_enter_d Try.func26, Try.ntmps26
  go_wp2_with (go_at_call 24; refine T.mono ?_; rintro e w' ⟨rfl, rfl⟩)
  go_end0
  exact ⟨rfl, rfl⟩

theorem nilStore {x y : Addr} (u : FrameMode) (z : Int) (hx : w.cell? x = some (.pointer none)) (hy : w.cell? y = some (.int .u16 z)) :
    CallsD Try.prog 26 #[.pointer (some x), .pointer (some y)] u w fun e u' w' => u' = u ∧ (e = .returned (.tuple #[]) ∧ w' = w) := by
  have T := countNil w z
  go_enter_d Try.func26, Try.ntmps26
  go_wp2_with (go_at_call 24; refine T.mono ?_; rintro e w' ⟨rfl, rfl⟩)
  go_end0
  exact ⟨rfl, rfl⟩

theorem okSwap {x y : Addr} (u : FrameMode) (hx : w.cell? x = some (.pointer (some ⟨p, 0, none⟩))) (hy : w.cell? y = some (.int .u16 0)) (hc : w.cell? ⟨p, 2, none⟩ = some (.int .i64 st)) (hf : w.frozen? ⟨p, 2, none⟩ = false) (h0 : 0 ≤ st) (h1 : st < 1000000) :
    CallsD Try.prog 28 #[.pointer (some x), .pointer (some y)] u w fun e u' w' => u' = u ∧ (e = .returned (.tuple #[]) ∧ w' = w.setCell ⟨p, 2, none⟩ (.int .i64 (st + 1))) := by
  have T := countOk (w := w) hc hf h0 h1
  go_enter_d Try.func28, Try.ntmps28
  go_wp2_with (go_at_call 24; refine T.mono ?_; rintro e w' ⟨rfl, rfl⟩)
  go_end0
  exact ⟨rfl, rfl⟩

theorem errSwap {x y : Addr} (u : FrameMode) (z : Int) (h0 : 0 < z) (hx : w.cell? x = some (.pointer (some ⟨p, 0, none⟩))) (hy : w.cell? y = some (.int .u16 z)) :
    CallsD Try.prog 28 #[.pointer (some x), .pointer (some y)] u w fun e u' w' => u' = u ∧ (e = .returned (.tuple #[]) ∧ w' = w) := by
  have T := countErr p w z h0
  go_enter_d Try.func28, Try.ntmps28
  go_wp2_with (go_at_call 24; refine T.mono ?_; rintro e w' ⟨rfl, rfl⟩)
  go_end0
  exact ⟨rfl, rfl⟩

theorem nilSwap {x y : Addr} (u : FrameMode) (z : Int) (hx : w.cell? x = some (.pointer none)) (hy : w.cell? y = some (.int .u16 z)) :
    CallsD Try.prog 28 #[.pointer (some x), .pointer (some y)] u w fun e u' w' => u' = u ∧ (e = .returned (.tuple #[]) ∧ w' = w) := by
  have T := countNil w z
  go_enter_d Try.func28, Try.ntmps28
  go_wp2_with (go_at_call 24; refine T.mono ?_; rintro e w' ⟨rfl, rfl⟩)
  go_end0
  exact ⟨rfl, rfl⟩

end

end Go.Proofs.Yteebmcldmiemnaa
