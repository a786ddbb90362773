/-
  What script.entry tells of four bytes, and which bytes script.nearest makes of an entry. Conditions: none but that the bytes lie there.
-/
import Derived.Test.YtblkkafilabbkaaEnt
import Derived.StillTailTactics
namespace Go.Proofs.Ytblkkafilabbkaa
open Go.RowKit

/-- The entry of four bytes. -/
def dec (x0 x1 x2 x3 : Int) : Ent :=
  if x0 = 1 then ⟨1, x1, x2, x3, 0⟩ else if x0 = 2 then ⟨2, x1, 0, 0, 0⟩ else if x0 = 3 then ⟨3, 0, 0, 0, x3⟩ else ⟨0, 0, 0, 0, 0⟩

theorem dec_call (x0 x1 x2 x3 : Int) (h : x0 = 1) : dec x0 x1 x2 x3 = ⟨1, x1, x2, x3, 0⟩ := by simp [dec, h]
theorem dec_pick (x0 x1 x2 x3 : Int) (h : x0 = 2) : dec x0 x1 x2 x3 = ⟨2, x1, 0, 0, 0⟩ := by simp [dec, h]
theorem dec_draw (x0 x1 x2 x3 : Int) (h : x0 = 3) : dec x0 x1 x2 x3 = ⟨3, 0, 0, 0, x3⟩ := by simp [dec, h]
theorem dec_else (x0 x1 x2 x3 : Int) (h1 : x0 ≠ 1) (h2 : x0 ≠ 2) (h3 : x0 ≠ 3) : dec x0 x1 x2 x3 = ⟨0, 0, 0, 0, 0⟩ := by simp [dec, h1, h2, h3]

/-- An entry in a block of its own. -/
def EBox (w : World) (B : Nat) (e : Ent) : Prop := w.heap[B]? = some (.cells #[.int .u8 e.k, .int .i64 e.t, .int .u8 e.ok, .int .i32 e.ov, .int .u8 e.b] 46 (0, 0))
theorem EBox.new (w : World) (e : Ent) : EBox (w.alloc (.cells #[.int .u8 e.k, .int .i64 e.t, .int .u8 e.ok, .int .i32 e.ov, .int .u8 e.b] 46)) w.heap.size e := heap_alloc_new w _
theorem EBox.lt {w : World} {B : Nat} {e : Ent} (h : EBox w B e) : B < w.heap.size := (Array.getElem?_eq_some_iff.1 h).1
theorem EBox.alloc {w : World} {B : Nat} {e : Ent} (h : EBox w B e) (o : Obj) : EBox (w.alloc o) B e := (Below.heap_alloc w o B h.lt).trans h
theorem EBox.keep {w w' : World} {B n : Nat} {e : Ent} (h : EBox w B e) (hb : Below n w w') (hn : B < n) : EBox w' B e := (hb.block B hn).trans h
theorem EBox.c0 {w : World} {B : Nat} {e : Ent} (h : EBox w B e) : w.cell? ⟨B, 0, none⟩ = some (.int .u8 e.k) := by simp [World.cell?, show w.heap[B]? = _ from h]
theorem EBox.c1 {w : World} {B : Nat} {e : Ent} (h : EBox w B e) : w.cell? ⟨B, 1, none⟩ = some (.int .i64 e.t) := by simp [World.cell?, show w.heap[B]? = _ from h]
theorem EBox.c2 {w : World} {B : Nat} {e : Ent} (h : EBox w B e) : w.cell? ⟨B, 2, none⟩ = some (.int .u8 e.ok) := by simp [World.cell?, show w.heap[B]? = _ from h]
theorem EBox.c3 {w : World} {B : Nat} {e : Ent} (h : EBox w B e) : w.cell? ⟨B, 3, none⟩ = some (.int .i32 e.ov) := by simp [World.cell?, show w.heap[B]? = _ from h]
theorem EBox.c4 {w : World} {B : Nat} {e : Ent} (h : EBox w B e) : w.cell? ⟨B, 4, none⟩ = some (.int .u8 e.b) := by simp [World.cell?, show w.heap[B]? = _ from h]
theorem EBox.f {w : World} {B : Nat} {e : Ent} (h : EBox w B e) (j : Nat) : w.frozen? ⟨B, j, none⟩ = false := by simp [World.frozen?, show w.heap[B]? = _ from h]

theorem set5 {n B : Nat} {w W : World} (h : Below n w W) (hn : n ≤ B) (v0 v1 v2 v3 v4 : Value) :
    Below n w (((((W.setCell ⟨B, 0, none⟩ v0).setCell ⟨B, 1, none⟩ v1).setCell ⟨B, 2, none⟩ v2).setCell ⟨B, 3, none⟩ v3).setCell ⟨B, 4, none⟩ v4) :=
  ((((h.setCell (p := ⟨B, 0, none⟩) hn v0).setCell (p := ⟨B, 1, none⟩) hn v1).setCell (p := ⟨B, 2, none⟩) hn v2).setCell (p := ⟨B, 3, none⟩) hn v3).setCell (p := ⟨B, 4, none⟩) hn v4

set_option maxHeartbeats 1600000 in
theorem entryAny (w : World) (b o cap : Nat) (x0 x1 x2 x3 : Int) (c0 : w.cell? ⟨b, o, none⟩ = some (.int .u8 x0)) (c1 : w.cell? ⟨b, o + 1, none⟩ = some (.int .u8 x1)) (c2 : w.cell? ⟨b, o + 2, none⟩ = some (.int .u8 x2)) (c3 : w.cell? ⟨b, o + 3, none⟩ = some (.int .u8 x3))
    (h1 : 0 ≤ x1 ∧ x1 ≤ 255) (h3 : 0 ≤ x3 ∧ x3 ≤ 255) :
    Calls Try.prog 22 #[.slice (some ⟨b, o, none⟩) 4 cap] w fun e w' => e = .returned (.agg #[.int .u8 (dec x0 x1 x2 x3).k, .int .i64 (dec x0 x1 x2 x3).t, .int .u8 (dec x0 x1 x2 x3).ok, .int .i32 (dec x0 x1 x2 x3).ov, .int .u8 (dec x0 x1 x2 x3).b]) ∧ Below w.heap.size w w' := by
  obtain ⟨p1, q1⟩ := h1
  obtain ⟨p3, q3⟩ := h3
  have lb : b < w.heap.size := World.block_lt_of_cell? w _ c0
  by_cases e1 : x0 = 1
  · rw [dec_call x0 x1 x2 x3 e1]
    subst e1
    go_enter Try.func22, Try.ntmps22
    go_upto_region 3 with (fail)
    have HZ := Lib.hid (EBox.new w ⟨0, 0, 0, 0, 0⟩)
    have HB := Lib.hid ((Below.refl w.heap.size w).alloc (Nat.le_refl _) (.cells #[.int .u8 0, .int .i64 0, .int .u8 0, .int .i32 0, .int .u8 0] 46))
    generalize w.alloc (.cells #[.int .u8 0, .int .i64 0, .int .u8 0, .int .i32 0, .int .u8 0] 46) = W at *
    have b1 := (HB.out.cell (p := ⟨b, o + 1, none⟩) lb).trans c1
    have b2 := (HB.out.cell (p := ⟨b, o + 2, none⟩) lb).trans c2
    have b3 := (HB.out.cell (p := ⟨b, o + 3, none⟩) lb).trans c3
    have z0 := HZ.out.c0
    have z1 := HZ.out.c1
    have z2 := HZ.out.c2
    have z3 := HZ.out.c3
    have z4 := HZ.out.c4
    have zf := HZ.out.f
    clear c0 c1 c2 c3
    go_still_tail 13, (by kernel_rfl)
    have y0 : W.drew.cell? ⟨w.heap.size, 0, none⟩ = some (.int .u8 0) := z0
    have y1 : W.drew.cell? ⟨w.heap.size, 1, none⟩ = some (.int .i64 0) := z1
    have y2 : W.drew.cell? ⟨w.heap.size, 2, none⟩ = some (.int .u8 0) := z2
    have y3 : W.drew.cell? ⟨w.heap.size, 3, none⟩ = some (.int .i32 0) := z3
    have y4 : W.drew.cell? ⟨w.heap.size, 4, none⟩ = some (.int .u8 0) := z4
    have yf : ∀ j, W.drew.frozen? ⟨w.heap.size, j, none⟩ = false := zf
    have HD := Lib.hid (show Below w.heap.size w W.drew from below_drewN HB.out 1)
    rw [show IntKind.i64.wrap x1 = x1 from IntWalk.i64_in _ (by omega), show IntKind.i32.wrap x3 = x3 by rw [IntKind.wrap_i32]; omega]
    change wpList _ _ _ _ _ W.drew
    clear z0 z1 z2 z3 z4 zf b1 b2 b3 HB HZ
    generalize W.drew = W2 at *
    go_wp2
    refine bodyPost_ret (v := .agg #[.int .u8 1, .int .i64 x1, .int .u8 x2, .int .i32 x3, .int .u8 0]) (by simp [results, Try.results22, go_sem, y0, y1, y2, y3, y4]) rfl ⟨rfl, ?_⟩
    exact set5 HD.out (Nat.le_refl _) _ _ _ _ _
  · by_cases e2 : x0 = 2
    · rw [dec_pick x0 x1 x2 x3 e2]
      subst e2
      go_enter Try.func22, Try.ntmps22
      go_wp2
      refine bodyPost_ret (v := .agg #[.int .u8 2, .int .i64 x1, .int .u8 0, .int .i32 0, .int .u8 0]) (by simp [results, Try.results22, go_sem]) rfl ⟨rfl, ?_⟩
      exact (Below.refl _ _).alloc (Nat.le_refl _) _
    · by_cases e3 : x0 = 3
      · rw [dec_draw x0 x1 x2 x3 e3]
        subst e3
        go_enter Try.func22, Try.ntmps22
        go_wp2
        refine bodyPost_ret (v := .agg #[.int .u8 3, .int .i64 0, .int .u8 0, .int .i32 0, .int .u8 x3]) (by simp [results, Try.results22, go_sem]) rfl ⟨rfl, ?_⟩
        exact (Below.refl _ _).alloc (Nat.le_refl _) _
      · rw [dec_else x0 x1 x2 x3 e1 e2 e3]
        have d1 := beq_eq_false_iff_ne.2 e1
        have d2 := beq_eq_false_iff_ne.2 e2
        have d3 := beq_eq_false_iff_ne.2 e3
        clear e1 e2 e3
        go_enter Try.func22, Try.ntmps22
        go_wp2
        refine bodyPost_ret (v := .agg #[.int .u8 0, .int .i64 0, .int .u8 0, .int .i32 0, .int .u8 0]) (by simp [results, Try.results22, go_sem]) rfl ⟨rfl, ?_⟩
        exact (Below.refl _ _).alloc (Nat.le_refl _) _

/-- The four bytes of an entry, if it has any. -/
def nearL (e : Ent) : List Int :=
  if e.k = 1 then [1, e.t % 256, e.ok, e.ov % 256] else if e.k = 2 then [2, e.t % 256, 0, 0] else if e.k = 3 then [3, 0, 0, e.b] else [0, 0, 0, 0]

/-- A new slice of four bytes. -/
def Four (w : World) (xs : List Int) (e : Ending) (w' : World) : Prop :=
  ∃ g, e = .returned (.slice (some ⟨g, 0, none⟩) 4 4) ∧ w.heap.size ≤ g ∧ Reads .u8 w' (some ⟨g, 0, none⟩) 4 xs ∧ Below w.heap.size w w'

theorem Four.new (w W : World) (g : Nat) (a b c d : Int) (hg : g = W.heap.size) (hb : Below w.heap.size w W) : Four w [a, b, c, d] (.returned (.slice (some ⟨g, 0, none⟩) 4 4)) (W.alloc (.cells #[.int .u8 a, .int .u8 b, .int .u8 c, .int .u8 d] 5)) := by
  subst hg
  refine ⟨W.heap.size, rfl, hb.size, ⟨rfl, fun _ => ⟨_, _, rfl, by simp, fun i hi => ?_⟩⟩, hb.alloc hb.size _⟩
  rw [cell_of_row _ _ _ _ _ _ (heap_alloc_new W _)]
  match i, hi with
  | 0, _ => rfl
  | 1, _ => rfl
  | 2, _ => rfl
  | 3, _ => rfl

set_option maxHeartbeats 1600000 in
theorem nearAny (w : World) (e : Ent) :
    Calls Try.prog 21 #[.agg #[.int .u8 e.k, .int .i64 e.t, .int .u8 e.ok, .int .i32 e.ov, .int .u8 e.b]] w (Four w (nearL e)) := by
  obtain ⟨k, t, ok, ov, b⟩ := e
  by_cases e1 : k = 1
  · subst e1
    rw [show nearL ⟨1, t, ok, ov, b⟩ = [1, t % 256, ok, ov % 256] by simp [nearL]]
    go_enter Try.func21, Try.ntmps21
    go_wp2
    go_ret
    exact Four.new _ _ (w.heap.size + 1) _ _ _ _ (by simp) ((Below.refl _ _).alloc (Nat.le_refl _) _)
  · by_cases e2 : k = 2
    · subst e2
      rw [show nearL ⟨2, t, ok, ov, b⟩ = [2, t % 256, 0, 0] by simp [nearL]]
      go_enter Try.func21, Try.ntmps21
      go_wp2
      go_ret
      exact Four.new _ _ (w.heap.size + 1) _ _ _ _ (by simp) ((Below.refl _ _).alloc (Nat.le_refl _) _)
    · by_cases e3 : k = 3
      · subst e3
        rw [show nearL ⟨3, t, ok, ov, b⟩ = [3, 0, 0, b] by simp [nearL]]
        go_enter Try.func21, Try.ntmps21
        go_wp2
        go_ret
        exact Four.new _ _ (w.heap.size + 1) _ _ _ _ (by simp) ((Below.refl _ _).alloc (Nat.le_refl _) _)
      · rw [show nearL ⟨k, t, ok, ov, b⟩ = [0, 0, 0, 0] by simp [nearL, e1, e2, e3]]
        have d1 := beq_eq_false_iff_ne.2 e1
        have d2 := beq_eq_false_iff_ne.2 e2
        have d3 := beq_eq_false_iff_ne.2 e3
        clear e1 e2 e3
        go_enter Try.func21, Try.ntmps21
        go_wp2
        go_ret
        exact Four.new _ _ (w.heap.size + 1) _ _ _ _ (by simp) ((Below.refl _ _).alloc (Nat.le_refl _) _)

end Go.Proofs.Ytblkkafilabbkaa
