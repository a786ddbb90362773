/-
  What the document's own memory (package reaperref02) does: each call tells new values and makes new memory; all old memory is as it was. Conditions: steps below a million, at most 1000 cells.
-/
import Derived.Test.YteebmcldmiemnaaArgs
import Derived.Deep.Cut
namespace Go.Proofs.Yteebmcldmiemnaa
open Go.RowKit

/-- A struct of the document's memory in a block of its own. -/
def Boxed (w : World) (N : Nat) (a b c : Value) : Prop := w.heap[N]? = some (.cells #[a, b, c] 49 (0, 0))

section
variable {w w' : World} {N : Nat} {a b c : Value}
theorem Boxed.c0 (h : Boxed w N a b c) : w.cell? ⟨N, 0, none⟩ = some a := by unfold Boxed at h; simp [World.cell?, h]
theorem Boxed.c1 (h : Boxed w N a b c) : w.cell? ⟨N, 1, none⟩ = some b := by unfold Boxed at h; simp [World.cell?, h]
theorem Boxed.c2 (h : Boxed w N a b c) : w.cell? ⟨N, 2, none⟩ = some c := by unfold Boxed at h; simp [World.cell?, h]
theorem Boxed.f (h : Boxed w N a b c) (o : Nat) : w.frozen? ⟨N, o, none⟩ = false := by unfold Boxed at h; simp [World.frozen?, h]
theorem Boxed.lt (h : Boxed w N a b c) : N < w.heap.size := lt_of_block h
theorem Boxed.keep (h : Boxed w N a b c) (hb : Below w.heap.size w w') : Boxed w' N a b c := (hb.block N h.lt).trans h
theorem Boxed.grown (h : Boxed w N a b c) {row : Option Nat} (hg : w.grownBy w' row) (hr : row ≠ some N) : Boxed w' N a b c := (hg.block N h.lt (fun e => hr e.symm)).trans h
theorem Boxed.new (w : World) (a b c : Value) : Boxed (w.alloc (.cells #[a, b, c] 49)) w.heap.size a b c := heap_alloc_new w _
theorem Boxed.alloc (h : Boxed w N a b c) (o : Obj) : Boxed (w.alloc o) N a b c := (Below.heap_alloc _ _ _ h.lt).trans h
theorem Boxed.other (h : Boxed w N a b c) {q : Addr} (hq : q.block ≠ N) (x : Value) : Boxed (w.setCell q x) N a b c := (Below.heap_setCell _ _ _ _ (fun e => hq e.symm)).trans h
theorem Boxed.set0 (h : Boxed w N a b c) (x : Value) : Boxed (w.setCell ⟨N, 0, none⟩ x) N x b c := by unfold Boxed; rw [heap_setCell_same w N 0 _ _ _ h]; rfl
theorem Boxed.set1 (h : Boxed w N a b c) (x : Value) : Boxed (w.setCell ⟨N, 1, none⟩ x) N a x c := by unfold Boxed; rw [heap_setCell_same w N 1 _ _ _ h]; rfl
theorem Boxed.set2 (h : Boxed w N a b c) (x : Value) : Boxed (w.setCell ⟨N, 2, none⟩ x) N a b x := by unfold Boxed; rw [heap_setCell_same w N 2 _ _ _ h]; rfl
end

theorem own_ne_boxed {w : World} {base N n : Nat} {a b c u : Value} {xs : List Value} (h : w.ownsRow base 2 1 u n xs) (hb : Boxed w N a b c) : u.ownBlock ≠ some N := by
  intro e
  rcases h.2 with ⟨rfl, _⟩ | ⟨g, cap, cur, rfl, _, hg, _⟩
  · simp [Value.ownBlock] at e
  · simp only [Value.ownBlock, Option.some.injEq] at e
    subst e
    unfold Boxed at hb
    rw [hg] at hb
    simp at hb

theorem own_keep {w w' : World} {base n : Nat} {u : Value} {xs : List Value} (h : w.ownsRow base 2 1 u n xs) (hb : Below w.heap.size w w') : w'.ownsRow base 2 1 u n xs := by
  refine ⟨h.1, ?_⟩
  rcases h.2 with hn | ⟨g, cap, cur, rfl, hl, hg, r⟩
  · exact .inl hn
  · exact .inr ⟨g, cap, cur, rfl, hl, (hb.block g (lt_of_block hg)).trans hg, r⟩

section
variable {w : World} {B : Nat} {u : Value} {size : Int} {zs : List Int} {st : Int}

theorem hasIn (ao : Option Addr) (n cap : Nat) (size st a : Int) (w : World) (h0 : 0 ≤ a) (h1 : a < n) :
    Calls Try.prog 36 #[.agg #[.int .i64 size, .slice ao n cap, .int .i64 st], .int .i64 a] w fun e w' => e = .returned (.bool true) ∧ Below w.heap.size w w' := by
  go_enter Try.func36, Try.ntmps36
  go_wp2
  go_ret
  exact ⟨by simp, (Below.refl _ _).alloc (Nat.le_refl _) _⟩

theorem hasOut (ao : Option Addr) (n cap : Nat) (size st a : Int) (w : World) (h0 : a < 0 ∨ n ≤ a) :
    Calls Try.prog 36 #[.agg #[.int .i64 size, .slice ao n cap, .int .i64 st], .int .i64 a] w fun e w' => e = .returned (.bool false) ∧ Below w.heap.size w w' := by
  rcases (show a < 0 ∨ (0 ≤ a ∧ (n : Int) ≤ a) from by omega) with h | ⟨h, h'⟩
  · clear h0
    go_enter Try.func36, Try.ntmps36
    go_wp2
    go_ret
    exact ⟨by simp, (Below.refl _ _).alloc (Nat.le_refl _) _⟩
  · clear h0
    have h2 : decide (a < n) = false := by simp; omega
    go_enter Try.func36, Try.ntmps36
    go_wp2
    go_ret
    exact ⟨by simp <;> omega, (Below.refl _ _).alloc (Nat.le_refl _) _⟩

theorem freshAny (size st : Int) (h : w.ownsRow B 2 1 u zs.length (zs.map (Value.int .i64))) (hl : zs.length ≤ 1000) :
    Calls Try.prog 35 #[.agg #[.int .i64 size, u, .int .i64 st]] w fun e w' => ∃ u', e = .returned (.agg #[.int .i64 size, u', .int .i64 st]) ∧ w'.ownsRow w.heap.size 2 1 u' zs.length (zs.map (Value.int .i64)) ∧ Below w.heap.size w w' := by
  obtain ⟨i0, hi, hz0, hz1, hz2⟩ := info_parts infoInt64
  rcases h.2 with ⟨rfl, e⟩ | ⟨g, cap, cur, rfl, hb, hg, _⟩
  · obtain rfl : zs = [] := List.eq_nil_of_length_eq_zero e
    have HI := Lib.hid hi
    clear hi hz0 hz1 hz2 h e
    go_enter Try.func35, Try.ntmps35
    go_upto_region 2 with (fail)
    generalize hW : (w.alloc (.cells #[.int .i64 size, .slice none 0 0, .int .i64 st] 49)).alloc (.cells #[.int .i64 0, .slice none 0 0, .int .i64 0] 49) = W
    have X0 : Boxed W w.heap.size (.int .i64 size) (.slice none 0 0) (.int .i64 st) := by subst hW; exact (Boxed.new _ _ _ _).alloc _
    have X1 : Boxed W (w.heap.size + 1) (.int .i64 0) (.slice none 0 0) (.int .i64 0) := by subst hW; have := Boxed.new (w.alloc (.cells #[.int .i64 size, .slice none 0 0, .int .i64 st] 49)) (.int .i64 0) (.slice none 0 0) (.int .i64 0); simpa using this
    have hb0 : Below w.heap.size w W := by subst hW; exact ((Below.refl _ _).alloc (Nat.le_refl _) _).alloc (by simp) _
    clear hW
    have HB0 := Lib.hid hb0
    have HX0 := Lib.hid X0
    have HX1 := Lib.hid X1
    have d0 := X0.c0
    have d1 := X0.c1
    have d2 := X0.c2
    have df := X0.f
    have e0 := X1.c0
    have e1 := X1.c1
    have e2 := X1.c2
    have ef := X1.f
    clear hb0 X0 X1
    go_wp2_with (at_builtin; refine wpList_append_own_none rfl (.tmp 4) (.tmp 6) 37 rfl w.heap.size 2 i0 1 Try.underlying37 HI.out (.slice none 0 0) 0 [] rfl (World.ownsRow_nil _ _ _ _) rfl ?_)
    have Z := (((HX1.out.other (q := ⟨w.heap.size, 1, none⟩) (by simp) (.slice none 0 0)).set0 (.int .i64 size)).set1 (.slice none 0 0)).set2 (.int .i64 st)
    refine bodyPost_ret (v := .agg #[.int .i64 size, .slice none 0 0, .int .i64 st]) (by simp [results, Try.results35, go_sem, Z.c0, Z.c1, Z.c2]) rfl ⟨_, rfl, World.ownsRow_nil _ _ _ _, ?_⟩
    exact (((HB0.out.setCell (Nat.le_refl _) _).setCell (by simp) _).setCell (by simp) _).setCell (by simp) _
  · have HI := Lib.hid hi
    have H0 := Lib.hid hz0
    have H1 := Lib.hid hz1
    have H2 := Lib.hid hz2
    clear hi hz0 hz1 hz2
    have HC := Lib.hid (h.cells (g := g) rfl)
    have hgl := lt_of_block hg
    have HL := Lib.hid h
    clear h hg
    go_enter Try.func35, Try.ntmps35
    go_upto_region 2 with (fail)
    generalize hW : (w.alloc (.cells #[.int .i64 size, .slice (some ⟨g, 0, none⟩) zs.length cap, .int .i64 st] 49)).alloc (.cells #[.int .i64 0, .slice none 0 0, .int .i64 0] 49) = W
    have X0 : Boxed W w.heap.size (.int .i64 size) (.slice (some ⟨g, 0, none⟩) zs.length cap) (.int .i64 st) := by subst hW; exact (Boxed.new _ _ _ _).alloc _
    have X1 : Boxed W (w.heap.size + 1) (.int .i64 0) (.slice none 0 0) (.int .i64 0) := by subst hW; have := Boxed.new (w.alloc (.cells #[.int .i64 size, .slice (some ⟨g, 0, none⟩) zs.length cap, .int .i64 st] 49)) (.int .i64 0) (.slice none 0 0) (.int .i64 0); simpa using this
    have hb0 : Below w.heap.size w W := by subst hW; exact ((Below.refl _ _).alloc (Nat.le_refl _) _).alloc (by simp) _
    clear hW
    have HC2 := Lib.hid (fun j u hu => (hb0.cell (p := (⟨g, 0, none⟩ : Addr).add j) (by simpa [Addr.add_lit] using hgl)).trans (HC.out j u hu))
    have HB0 := Lib.hid hb0
    have HX0 := Lib.hid X0
    have HX1 := Lib.hid X1
    have c1 := X0.c1
    clear hb0 X0 X1
    have hsz := HB0.out.size
    go_wp2_with (at_builtin; refine wpList_append_own _ rfl (.tmp 4) (.tmp 6) 37 rfl w.heap.size 2 i0 (.int .i64 0) 1 8 Try.underlying37 HI.out H0.out H1.out H2.out rfl (by decide) (.slice none 0 0) 0 [] rfl (World.ownsRow_nil _ _ _ _) ⟨g, 0, none⟩ zs.length cap (zs.map (Value.int .i64)) rfl (by simp) HC2.out (ints_oneCell _ _) (by unfold maxLen; omega) (by omega) hsz ?_; intro u1 w1 ho hg hn; obtain ⟨ao', cap', rfl⟩ := ownShape ho; have Y0 := HX0.out.grown hg (by simp [Value.ownBlock]); have Y1 := HX1.out.grown hg (by simp [Value.ownBlock]); have d0 := Y0.c0; have d1 := Y0.c1; have d2 := Y0.c2; have df := Y0.f; have e0 := Y1.c0; have e1 := Y1.c1; have e2 := Y1.c2; have ef := Y1.f; have HO := Lib.hid ho; have HG := Lib.hid hg; clear ho hg hn; have HY0 := Lib.hid Y0; have HY1 := Lib.hid Y1; clear Y0 Y1)
    have Z := (((HY1.out.other (q := ⟨w.heap.size, 1, none⟩) (by simp) (.slice ao' zs.length cap')).set0 (.int .i64 size)).set1 (.slice ao' zs.length cap')).set2 (.int .i64 st)
    have ho := HO.out
    simp only [Nat.zero_add, List.nil_append] at ho
    have n0 := own_ne_boxed ho HY0.out
    have n1 := own_ne_boxed ho HY1.out
    refine bodyPost_ret (v := .agg #[.int .i64 size, .slice ao' zs.length cap', .int .i64 st]) (by simp [results, Try.results35, go_sem, Z.c0, Z.c1, Z.c2]) rfl ⟨_, rfl, ?_, ?_⟩
    · exact ownsRow_setCell_other (ownsRow_setCell_other (ownsRow_setCell_other (ownsRow_setCell_other ho n0 _) n1 _) n1 _) n1 _
    · exact ((((HB0.out.grown HG.out HB0.out.size (by simp [Value.ownBlock])).setCell (Nat.le_refl _) _).setCell (by simp) _).setCell (by simp) _).setCell (by simp) _
end

end Go.Proofs.Yteebmcldmiemnaa
