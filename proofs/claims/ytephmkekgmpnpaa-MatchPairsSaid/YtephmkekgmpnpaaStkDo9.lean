/-
  What Do of package stack does, at every stack and at nil: what an operation is told, and what becomes of the items. Conditions: a stack as Stk says; a kind of 0 to 255.
-/
import Derived.Test.YtephmkekgmpnpaaStk9
import Derived.Laws.EntriesVeiled
namespace Go.Proofs.Ytephmkekgmpnpaa
open Go.RowKit

section
variable {w : World} {g : Nat} {c x : Int}
end

section
variable {w W w1 : World} {F : Nat → Prop} {p : Nat} {most : Int} {zs : List Int}

/-- What stands behind a call on the stack, and a store into a box that was made ahead of it. -/
theorem Did.boxed (hF : ∀ g, F g → g < w.heap.size) (hb : Below w.heap.size w W) (d : Did F p most zs W w1) {g : Nat} (hg : w.heap.size ≤ g) (hl : g < W.heap.size) :
    w1.heap[g]? = W.heap[g]? ∧ ∀ a b, Did F p most zs w ((w1.setCell ⟨g, 0, none⟩ a).setCell ⟨g, 1, none⟩ b) := by
  obtain ⟨F', s, wr, l⟩ := d
  have hn : ¬ F g := fun e => by have := hF g e; omega
  have hn' : ¬ F' g := fun e => by
    rcases l g e with h | h
    · exact hn h
    · omega
  refine ⟨wr.block g hl hn, fun a b => ⟨F', ?_, ?_, ?_⟩⟩
  · exact s.apart (((Wrote.refl (fun k => k = g) w1).setCell (q := ⟨g, 0, none⟩) (.inr rfl) a).setCell (q := ⟨g, 1, none⟩) (.inr rfl) b) (fun k h1 h2 => hn' (by subst h2; exact h1))
  · exact (((Wrote.of hb F).trans wr).setCell (q := ⟨g, 0, none⟩) (.inl hg) a).setCell (q := ⟨g, 1, none⟩) (.inl hg) b
  · intro k hk
    rcases l k hk with h | h
    · exact .inl h
    · exact .inr (Nat.le_trans hb.size h)

theorem boxed1 (w : World) : ∀ W, w.alloc (.cells #[.int .u8 0, .int .i32 0] 41) = W → RBox W w.heap.size 0 0 ∧ Below w.heap.size w W := by
  rintro W rfl
  exact ⟨heap_alloc_new w _, (Below.refl _ _).alloc (Nat.le_refl _) _⟩

set_option maxHeartbeats 1600000 in
theorem doPushOk (h : Stk w F p most zs) (x : Int) (hf : (zs.length : Int) < most) :
    Calls Try.prog 42 #[.pointer (some ⟨p, 0, none⟩), .int .i32 x] w fun e w' => e = .returned (.agg #[.int .u8 1, .int .i32 0]) ∧ Did F p most (zs ++ [x]) w w' := by
  go_enter Try.func42, Try.ntmps42
  go_wp2_with fail
  generalize hW : w.alloc (.cells #[.int .u8 0, .int .i32 0] 41) = W
  obtain ⟨b0, hb⟩ := boxed1 w W hW
  clear hW
  have C := pushOk (h.fresh hb) x hf
  have HX := Lib.hid (fun w1 (d : Did F p most (zs ++ [x]) W w1) => d.boxed h.foot hb (Nat.le_refl _) b0.lt)
  clear h hb
  have HB := Lib.hid b0
  clear b0
  refine C.mono ?_
  clear C
  rintro e w1 ⟨rfl, d⟩
  obtain ⟨h1, h2⟩ := HX.out w1 d
  have b1 : RBox w1 w.heap.size 0 0 := h1.trans HB.out
  have c0 := b1.c0
  have c1 := b1.c1
  have f := b1.f
  have r := b1.set2 1 0
  have r0 := r.c0
  have r1 := r.c1
  have H2 := Lib.hid h2
  clear h1 h2 d b1 r HX
  go_wp2
  exact bodyPost_ret (v := .agg #[.int .u8 1, .int .i32 0]) (by simp [results, Try.results42, go_sem, r0, r1]) rfl ⟨rfl, H2.out _ _⟩

set_option maxHeartbeats 1600000 in
theorem doPushFull (h : Stk w F p most zs) (x : Int) (hf : ¬ (zs.length : Int) < most) :
    Calls Try.prog 42 #[.pointer (some ⟨p, 0, none⟩), .int .i32 x] w fun e w' => e = .returned (.agg #[.int .u8 3, .int .i32 0]) ∧ Did F p most zs w w' := by
  go_enter Try.func42, Try.ntmps42
  go_wp2_with fail
  generalize hW : w.alloc (.cells #[.int .u8 0, .int .i32 0] 41) = W
  obtain ⟨b0, hb⟩ := boxed1 w W hW
  clear hW
  have C := pushFull (h.fresh hb) x (by omega)
  have HX := Lib.hid (((h.fresh hb).did (Below.refl _ _)).boxed h.foot hb (Nat.le_refl _) b0.lt).2
  clear h hb
  refine C.mono ?_
  clear C
  rintro e w' ⟨rfl, rfl⟩
  have c0 := b0.c0
  have c1 := b0.c1
  have f := b0.f
  have r := b0.set2 3 0
  have r0 := r.c0
  have r1 := r.c1
  clear b0 r
  go_wp2
  exact bodyPost_ret (v := .agg #[.int .u8 3, .int .i32 0]) (by simp [results, Try.results42, go_sem, r0, r1]) rfl ⟨rfl, HX.out _ _⟩

theorem doPushNil (w : World) (x : Int) :
    Calls Try.prog 42 #[.pointer none, .int .i32 x] w fun e w' => e = .returned (.agg #[.int .u8 3, .int .i32 0]) ∧ Below w.heap.size w w' := by
  go_enter Try.func42, Try.ntmps42
  go_wp2_with (go_at_call 28; refine (pushNil _ _).mono ?_; rintro e w' ⟨rfl, rfl⟩)
  exact bodyPost_ret (v := .agg #[.int .u8 3, .int .i32 0]) (by simp [results, Try.results42, go_sem]) rfl ⟨rfl, by exact (Below.refl _ _).alloc (Nat.le_refl _) _⟩

set_option maxHeartbeats 1600000 in
theorem doPopOk (y : Int) (h : Stk w F p most (zs ++ [y])) (x : Int) :
    Calls Try.prog 43 #[.pointer (some ⟨p, 0, none⟩), .int .i32 x] w fun e w' => e = .returned (.agg #[.int .u8 2, .int .i32 y]) ∧ Did F p most zs w w' := by
  go_enter Try.func43, Try.ntmps43
  go_wp2_with fail
  generalize hW : w.alloc (.cells #[.int .u8 0, .int .i32 0] 41) = W
  obtain ⟨b0, hb⟩ := boxed1 w W hW
  clear hW
  have C := popOk y (h.fresh hb)
  have HX := Lib.hid (fun w1 (d : Did F p most zs W w1) => d.boxed h.foot hb (Nat.le_refl _) b0.lt)
  clear h hb
  have HB := Lib.hid b0
  clear b0
  refine C.mono ?_
  clear C
  rintro e w1 ⟨rfl, d⟩
  obtain ⟨h1, h2⟩ := HX.out w1 d
  have b1 : RBox w1 w.heap.size 0 0 := h1.trans HB.out
  have c0 := b1.c0
  have c1 := b1.c1
  have f := b1.f
  have r := b1.set2 2 y
  have r0 := r.c0
  have r1 := r.c1
  have H2 := Lib.hid h2
  clear h1 h2 d b1 r HX
  go_wp2
  exact bodyPost_ret (v := .agg #[.int .u8 2, .int .i32 y]) (by simp [results, Try.results43, go_sem, r0, r1]) rfl ⟨rfl, H2.out _ _⟩

set_option maxHeartbeats 1600000 in
theorem doPopNone (h : Stk w F p most []) (x : Int) :
    Calls Try.prog 43 #[.pointer (some ⟨p, 0, none⟩), .int .i32 x] w fun e w' => e = .returned (.agg #[.int .u8 4, .int .i32 0]) ∧ Did F p most [] w w' := by
  go_enter Try.func43, Try.ntmps43
  go_wp2_with fail
  generalize hW : w.alloc (.cells #[.int .u8 0, .int .i32 0] 41) = W
  obtain ⟨b0, hb⟩ := boxed1 w W hW
  clear hW
  have C := popNone (h.fresh hb)
  have HX := Lib.hid (((h.fresh hb).did (Below.refl _ _)).boxed h.foot hb (Nat.le_refl _) b0.lt).2
  clear h hb
  refine C.mono ?_
  clear C
  rintro e w' ⟨rfl, rfl⟩
  have c0 := b0.c0
  have c1 := b0.c1
  have f := b0.f
  have r := b0.set2 4 0
  have r0 := r.c0
  have r1 := r.c1
  clear b0 r
  go_wp2
  exact bodyPost_ret (v := .agg #[.int .u8 4, .int .i32 0]) (by simp [results, Try.results43, go_sem, r0, r1]) rfl ⟨rfl, HX.out _ _⟩

/-- The boxes with which Do begins: the operation, what it is told, the array. -/
theorem begunDo (w : World) (k x : Int) : ∀ W, ((w.alloc (.cells #[.int .u8 k, .int .i32 x] 43)).alloc (.cells #[.int .u8 0, .int .i32 0] 41)).alloc (.cells #[.func (.func 41) #[] #[], .func (.func 42) #[] #[], .func (.func 43) #[] #[]] 73) = W →
    W.cell? ⟨w.heap.size, 0, none⟩ = some (.int .u8 k) ∧ W.cell? ⟨w.heap.size, 1, none⟩ = some (.int .i32 x) ∧ RBox W (w.heap.size + 1) 0 0 ∧ Below w.heap.size w W ∧
    W.cell? ⟨w.heap.size + 1 + 1, 0, none⟩ = some (.func (.func 41) #[] #[]) ∧ W.cell? ⟨w.heap.size + 1 + 1, 1, none⟩ = some (.func (.func 42) #[] #[]) ∧ W.cell? ⟨w.heap.size + 1 + 1, 2, none⟩ = some (.func (.func 43) #[] #[]) := by
  rintro W rfl
  refine ⟨?_, ?_, ?_, (((Below.refl _ _).alloc (Nat.le_refl _) _).alloc (by simp) _).alloc (by simp; omega) _, ?_, ?_, ?_⟩
  · go_simp
  · go_simp
  · unfold RBox
    rw [Below.heap_alloc _ _ _ (by simp)]
    have := heap_alloc_new (w.alloc (.cells #[.int .u8 k, .int .i32 x] 43)) (.cells #[.int .u8 0, .int .i32 0] 41)
    simpa using this
  · go_simp
  · go_simp
  · go_simp

end

end Go.Proofs.Ytephmkekgmpnpaa
