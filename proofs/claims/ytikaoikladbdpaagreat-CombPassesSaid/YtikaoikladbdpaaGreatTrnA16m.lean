/-
  The small calls of a turn (package comb): here, load, store, swap, fork, goOn, helps, follow, item. Conditions: a turn beside its memory, as CM says; steps below a million.
-/
import Derived.Test.YtikaoikladbdpaaGreatG2316
namespace Go.Proofs.YtikaoikladbdpaaGreat.M2
open Go.RowKit

section
variable {w0 w : World} {M B p N : Nat} {v0 : Value} {size : Int} {t : Th} {b o : Value} {pa : Int} {dn : Value} {l : List It3} {zs : List Int} {st : Int}

set_option maxRecDepth 100000 in
theorem hereT (h : CM w0 M B p N v0 size t b o pa dn l zs st w) (c : Int) : Calls Tryz.prog 106 #[.pointer (some ⟨N, 0, none⟩), .int .i64 c] w fun e w' => e = .returned (.int .i64 (ad t.cu c)) ∧ w = w' := by
  have c6 := h.box.c6
  clear h
  go_enter Tryz.func106, Tryz.ntmps106
  go_wp2
  go_ret
  exact ⟨rfl, rfl⟩

set_option maxRecDepth 100000 in
theorem loadT (h : CM w0 M B p N v0 size t b o pa dn l zs st w) (a : Int) (k0 : 0 ≤ st) (k1 : st < 1000000) : Calls Tryz.prog 100 #[.pointer (some ⟨N, 0, none⟩), .int .i64 a] w fun e w' => e = .returned (.int .i64 (ld zs a)) ∧ CM w0 M B p N v0 size { t with lk := ld zs a } b o pa dn l zs (st + cn zs a) w' := by
  have C := h.load a k0 k1
  have c13 := h.box.c13
  clear h
  go_enter Tryz.func100, Tryz.ntmps100
  go_wp2_with fail
  refine C.mono ?_
  clear C c13
  rintro e w1 ⟨rfl, h1⟩
  have c5 := h1.box.c5
  have cf := h1.box.f
  have H2 := Lib.hid (h1.s5 (ld zs a))
  have e5 := H2.out.box.c5
  clear h1
  go_wp2
  go_ret
  exact ⟨rfl, H2.out⟩

set_option maxRecDepth 100000 in
theorem storeTK (h : CM w0 M B p N v0 size t b o pa dn l zs st w) (a x : Int) (k0 : 0 ≤ st) (k1 : st < 1000000) : Calls Tryz.prog 101 #[.pointer (some ⟨N, 0, none⟩), .int .i64 a, .int .i64 x] w fun e w' => e = .returned (.tuple #[]) ∧ CM w0 M B p N v0 size t b o pa dn l (sto zs a x) (st + cn zs a) w' ∧ Kept w w' := by
  have C := h.storeK a x k0 k1
  have c13 := h.box.c13
  clear h
  go_enter Tryz.func101, Tryz.ntmps101
  go_wp2_with fail
  refine C.mono ?_
  clear C c13
  rintro e w1 ⟨rfl, h1⟩
  have H1 := Lib.hid h1
  clear h1
  go_wp2
  go_end0
  exact ⟨rfl, H1.out⟩

set_option maxRecDepth 100000 in
theorem storeT (h : CM w0 M B p N v0 size t b o pa dn l zs st w) (a x : Int) (k0 : 0 ≤ st) (k1 : st < 1000000) : Calls Tryz.prog 101 #[.pointer (some ⟨N, 0, none⟩), .int .i64 a, .int .i64 x] w fun e w' => e = .returned (.tuple #[]) ∧ CM w0 M B p N v0 size t b o pa dn l (sto zs a x) (st + cn zs a) w' := by
  exact (storeTK h a x k0 k1).mono fun _ _ hh => ⟨hh.1, hh.2.1⟩

set_option maxRecDepth 100000 in
theorem swapT (h : CM w0 M B p N v0 size t b o pa dn l zs st w) (a q x : Int) (k0 : 0 ≤ st) (k1 : st < 1000000) : Calls Tryz.prog 108 #[.pointer (some ⟨N, 0, none⟩), .int .i64 a, .int .i64 q, .int .i64 x] w fun e w' => e = .returned (.bool (swb zs a q)) ∧ CM w0 M B p N v0 size t b o pa dn l (swp zs a q x) (st + cn zs a) w' := by
  have C := h.swap a q x k0 k1
  have c13 := h.box.c13
  clear h
  go_enter Tryz.func108, Tryz.ntmps108
  go_wp2_with fail
  refine C.mono ?_
  clear C c13
  rintro e w1 ⟨rfl, h1⟩
  have H1 := Lib.hid h1
  clear h1
  go_wp2
  go_ret
  exact ⟨rfl, H1.out⟩

set_option maxRecDepth 100000 in
theorem forkT (h : CM w0 M B p N v0 size t b o pa dn l zs st w) (is : Bool) (x y : Int) : Calls Tryz.prog 103 #[.pointer (some ⟨N, 0, none⟩), .bool is, .int .i64 x, .int .i64 y] w fun e w' => e = .returned (.tuple #[]) ∧ CM w0 M B p N v0 size { t with pc := fk is x y } b o pa dn l zs st w' := by
  have c1 := h.box.c1
  have cf := h.box.f
  have H1 := Lib.hid (h.s1 y)
  have d1 := H1.out.box.c1
  have df := H1.out.box.f
  have H2 := Lib.hid (H1.out.s1 x)
  clear h
  cases is
  · go_enter Tryz.func103, Tryz.ntmps103
    go_wp2
    go_end0
    exact ⟨rfl, H1.out⟩
  · go_enter Tryz.func103, Tryz.ntmps103
    go_wp2
    go_end0
    exact ⟨rfl, H2.out⟩

set_option maxRecDepth 100000 in
theorem goOnT (h : CM w0 M B p N v0 size t b o pa dn l zs st w) : Calls Tryz.prog 109 #[.pointer (some ⟨N, 0, none⟩)] w fun e w' => e = .returned (.tuple #[]) ∧ CM w0 M B p N v0 size (onT t) b o pa dn l zs st w' := by
  have c8 := h.box.c8
  have cf := h.box.f
  have H1 := h.s8 (wrap64 (t.nt + 1))
  have hd := H1.drew
  have i0 : (fun w' : World => w'.cell? ⟨N, 8, none⟩ = some (.int .i64 (wrap64 (t.nt + 1))) ∧ w'.cell? ⟨N, 9, none⟩ = some (.int .i64 t.mx)) _ := ⟨hd.box.c8, hd.box.c9⟩
  have C := forkT hd (decide (wrap64 (t.nt + 1) < t.mx)) 23 33
  clear h H1 hd
  go_enter Tryz.func109, Tryz.ntmps109
  go_wp2
  go_region_held3 (fun w' => w'.cell? ⟨N, 8, none⟩ = some (.int .i64 (wrap64 (t.nt + 1))) ∧ w'.cell? ⟨N, 9, none⟩ = some (.int .i64 t.mx)) (first | exact i0 | exact i1) (first
    | ((with_reducible refine C.mono ?_); rintro e w1 ⟨rfl, h1⟩; have i1 : (fun w' : World => w'.cell? ⟨N, 8, none⟩ = some (.int .i64 (wrap64 (t.nt + 1))) ∧ w'.cell? ⟨N, 9, none⟩ = some (.int .i64 t.mx)) _ := ⟨h1.box.c8, h1.box.c9⟩; have H2 := Lib.hid h1; clear h1))
  all_goals (go_wp2; go_end0; exact ⟨rfl, H2.out⟩)

set_option maxRecDepth 100000 in
theorem helpsT (h : CM w0 M B p N v0 size t b o pa dn l zs st w) (is : Bool) (x : Int) : Calls Tryz.prog 105 #[.pointer (some ⟨N, 0, none⟩), .bool is, .int .i64 x] w fun e w' => e = .returned (.tuple #[]) ∧ CM w0 M B p N v0 size (hlT is x t) b o pa dn l zs st w' := by
  cases is
  · have C := goOnT h
    rw [show hlT false x t = onT t from rfl]
    clear h
    go_enter Tryz.func105, Tryz.ntmps105
    go_wp2_with fail
    with_reducible refine C.mono ?_
    clear C
    rintro e w1 ⟨rfl, h1⟩
    have H2 := Lib.hid h1
    clear h1
    go_wp2
    go_end0
    exact ⟨rfl, H2.out⟩
  · have c1 := h.box.c1
    have cf := h.box.f
    have H1 := Lib.hid (h.s1 x)
    clear h
    go_enter Tryz.func105, Tryz.ntmps105
    go_wp2
    refine bodyPost_ret (results_none rfl _ _ _) rfl ?_
    exact ⟨rfl, H1.out⟩

set_option maxRecDepth 100000 in
theorem followT (h : CM w0 M B p N v0 size t b o pa dn l zs st w) (x : Int) : Calls Tryz.prog 110 #[.pointer (some ⟨N, 0, none⟩), .int .i64 x] w fun e w' => e = .returned (.tuple #[]) ∧ CM w0 M B p N v0 size (foT x t) b o pa dn l zs st w' := by
  have c5 := h.box.c5
  have c1 := h.box.c1
  have c6 := h.box.c6
  have cf := h.box.f
  by_cases hk : t.lk = 0
  · rw [show foT x t = { t with pc := x } from if_pos hk]
    have H1 := Lib.hid (h.s1 x)
    rw [hk] at c5
    clear h hk
    go_enter Tryz.func110, Tryz.ntmps110
    go_wp2
    first | go_end0 | refine bodyPost_ret (results_none rfl _ _ _) rfl ?_
    exact ⟨rfl, H1.out⟩
  · rw [show foT x t = { t with cu := t.lk, pc := 34 } from if_neg hk]
    have H1 := h.s6 t.lk
    have e1 := H1.box.c1
    have ef := H1.box.f
    have H2 := Lib.hid (H1.s1 34)
    have hb : (t.lk == 0) = false := by simpa using hk
    clear h H1 hk
    go_enter Tryz.func110, Tryz.ntmps110
    go_wp2
    first | go_end0 | refine bodyPost_ret (results_none rfl _ _ _) rfl ?_
    exact ⟨rfl, H2.out⟩

theorem BR.at {n : Nat} (h : BR M w b l) (hn : n < l.length) : ∃ g cap, b = .slice (some ⟨g, 0, none⟩) l.length cap ∧ l.length ≤ cap ∧ w.cell? ⟨g, n * 3, none⟩ = some (.int .i64 (l.getD n (0, 0, 0)).1) ∧ w.cell? ⟨g, n * 3 + 1, none⟩ = some (.int .i64 (l.getD n (0, 0, 0)).2.1) ∧ w.cell? ⟨g, n * 3 + 2, none⟩ = some (.int .i64 (l.getD n (0, 0, 0)).2.2) := by
  have hcs := fun g hg => h.cells (g := g) hg
  rcases h.2 with ⟨rfl, h0⟩ | ⟨g, cap, cur, rfl, hb, hg, hle, hc⟩
  · simp at h0; subst h0; simp at hn
  · obtain ⟨f0, f1, f2⟩ := fi_at l n hn
    have k0 := hcs g rfl _ _ f0
    have k1 := hcs g rfl _ _ f1
    have k2 := hcs g rfl _ _ f2
    simp only [Addr.add_lit, Nat.zero_add] at k0 k1 k2
    exact ⟨g, cap, rfl, hle, k0, k1, k2⟩
theorem BR.shape (h : BR M w b l) : ∃ ao cap, b = .slice ao l.length cap ∧ l.length ≤ cap := by
  rcases h.2 with ⟨rfl, h0⟩ | ⟨g, cap, cur, rfl, hb, hg, hle, hc⟩
  · exact ⟨none, 0, by rw [h0], by omega⟩
  · exact ⟨_, cap, rfl, hle⟩

def IB (w : World) (g : Nat) (i : It3) : Prop := w.heap[g]? = some (.cells #[.int .i64 i.1, .int .i64 i.2.1, .int .i64 i.2.2] 68 (0, 0))
theorem IB.new (w : World) (i : It3) : IB (w.alloc (.cells #[.int .i64 i.1, .int .i64 i.2.1, .int .i64 i.2.2] 68)) w.heap.size i := heap_alloc_new w _
theorem IB.c0 {g : Nat} {i : It3} (h : IB w g i) : w.cell? ⟨g, 0, none⟩ = some (.int .i64 i.1) := by unfold IB at h; simp [World.cell?, h]
theorem IB.c1 {g : Nat} {i : It3} (h : IB w g i) : w.cell? ⟨g, 1, none⟩ = some (.int .i64 i.2.1) := by unfold IB at h; simp [World.cell?, h]
theorem IB.c2 {g : Nat} {i : It3} (h : IB w g i) : w.cell? ⟨g, 2, none⟩ = some (.int .i64 i.2.2) := by unfold IB at h; simp [World.cell?, h]
theorem IB.set3 {g : Nat} {i : It3} (h : IB w g i) (a b c : Int) : IB (((w.setCell ⟨g, 0, none⟩ (.int .i64 a)).setCell ⟨g, 1, none⟩ (.int .i64 b)).setCell ⟨g, 2, none⟩ (.int .i64 c)) g (a, b, c) := by
  have h1 : IB (w.setCell ⟨g, 0, none⟩ (.int .i64 a)) g (a, i.2.1, i.2.2) := by unfold IB; rw [heap_setCell_same w g 0 _ _ _ h]; rfl
  have h2 : IB ((w.setCell ⟨g, 0, none⟩ (.int .i64 a)).setCell ⟨g, 1, none⟩ (.int .i64 b)) g (a, b, i.2.2) := by unfold IB; rw [heap_setCell_same _ g 1 _ _ _ h1]; rfl
  unfold IB
  rw [heap_setCell_same _ g 2 _ _ _ h2]
  rfl
theorem IB.f {g : Nat} {i : It3} (h : IB w g i) (j : Nat) : w.frozen? ⟨g, j, none⟩ = false := by unfold IB at h; simp [World.frozen?, h]

set_option maxRecDepth 100000 in
theorem itemT (h : CM w0 M B p N v0 size t b o pa dn l zs st w) (_ : l.length ≤ 1000) : Calls Tryz.prog 112 #[.pointer (some ⟨N, 0, none⟩)] w fun e w' => e = .returned (.tuple #[.agg #[.int .i64 (itG l t.nt).1, .int .i64 (itG l t.nt).2.1, .int .i64 (itG l t.nt).2.2], .bool (itB l t.nt)]) ∧ CM w0 M B p N v0 size t b o pa dn l zs st w' := by
  rcases (show t.nt < 0 ∨ (0 ≤ t.nt ∧ (l.length : Int) ≤ t.nt) ∨ (0 ≤ t.nt ∧ t.nt < (l.length : Int)) from by omega) with hk | ⟨hk, hk2⟩ | ⟨hk, hk2⟩
  · have eb : itB l t.nt = false := decide_eq_false (by omega)
    rw [show itG l t.nt = (0, 0, 0) from if_neg (by rw [eb]; decide), eb]
    clear eb
    have H := Lib.hid h
    clear h
    go_enter Tryz.func112, Tryz.ntmps112
    go_upto_region 1 with (fail)
    generalize hW : w.alloc (.cells #[.int .i64 0, .int .i64 0, .int .i64 0] 68) = W
    have I0 : IB W w.heap.size (0, 0, 0) := by subst hW; exact IB.new w (0, 0, 0)
    have HB := Lib.hid (show Below w.heap.size w W by subst hW; exact (Below.refl _ _).alloc (Nat.le_refl _) _)
    have H1 := Lib.hid (H.out.fresh HB.out).drew
    have jw : ∀ j, W.frozen? ⟨w.heap.size, j, none⟩ = false := I0.f
    have w0' := I0.c0
    have w1' := I0.c1
    have w2' := I0.c2
    have jf : ∀ j, W.drew.frozen? ⟨w.heap.size, j, none⟩ = false := I0.f
    have jg : ∀ j, W.drew.drew.frozen? ⟨w.heap.size, j, none⟩ = false := I0.f
    have i0 : W.drew.drew.cell? ⟨w.heap.size, 0, none⟩ = some (.int .i64 0) := I0.c0
    have i1 : W.drew.drew.cell? ⟨w.heap.size, 1, none⟩ = some (.int .i64 0) := I0.c1
    have i2 : W.drew.drew.cell? ⟨w.heap.size, 2, none⟩ = some (.int .i64 0) := I0.c2
    have j0 : W.drew.cell? ⟨w.heap.size, 0, none⟩ = some (.int .i64 0) := I0.c0
    have j1 : W.drew.cell? ⟨w.heap.size, 1, none⟩ = some (.int .i64 0) := I0.c1
    have j2 : W.drew.cell? ⟨w.heap.size, 2, none⟩ = some (.int .i64 0) := I0.c2
    have c8 := H1.out.box.c8
    have c12 := H1.out.box.c12
    have HI := Lib.hid I0
    clear hW I0
    have g1 : decide (t.nt < 0) = true := decide_eq_true hk
    go_region
    go_wp2
    have z := HI.out.set3 (0) (0) (0)
    have hb : Below w.heap.size w (((W.setCell ⟨w.heap.size, 0, none⟩ (.int .i64 (0))).setCell ⟨w.heap.size, 1, none⟩ (.int .i64 (0))).setCell ⟨w.heap.size, 2, none⟩ (.int .i64 (0))) := ((HB.out.setCell (Nat.le_refl _) _).setCell (Nat.le_refl _) _).setCell (Nat.le_refl _) _
    generalize ((W.setCell ⟨w.heap.size, 0, none⟩ (.int .i64 (0))).setCell ⟨w.heap.size, 1, none⟩ (.int .i64 (0))).setCell ⟨w.heap.size, 2, none⟩ (.int .i64 (0)) = W2 at *
    refine bodyPost_ret (v := .tuple #[.agg #[.int .i64 (0), .int .i64 (0), .int .i64 (0)], .bool false]) (by simp [results, Tryz.results112, go_sem, z.c0, z.c1, z.c2]) rfl ?_
    exact ⟨rfl, H.out.fresh hb.drew⟩
  · have eb : itB l t.nt = false := decide_eq_false (by omega)
    rw [show itG l t.nt = (0, 0, 0) from if_neg (by rw [eb]; decide), eb]
    obtain ⟨ao, cap, rfl, _⟩ := h.row.shape
    clear eb
    have H := Lib.hid h
    clear h
    go_enter Tryz.func112, Tryz.ntmps112
    go_upto_region 1 with (fail)
    generalize hW : w.alloc (.cells #[.int .i64 0, .int .i64 0, .int .i64 0] 68) = W
    have I0 : IB W w.heap.size (0, 0, 0) := by subst hW; exact IB.new w (0, 0, 0)
    have HB := Lib.hid (show Below w.heap.size w W by subst hW; exact (Below.refl _ _).alloc (Nat.le_refl _) _)
    have H1 := Lib.hid (H.out.fresh HB.out).drew
    have jw : ∀ j, W.frozen? ⟨w.heap.size, j, none⟩ = false := I0.f
    have w0' := I0.c0
    have w1' := I0.c1
    have w2' := I0.c2
    have jf : ∀ j, W.drew.frozen? ⟨w.heap.size, j, none⟩ = false := I0.f
    have jg : ∀ j, W.drew.drew.frozen? ⟨w.heap.size, j, none⟩ = false := I0.f
    have i0 : W.drew.drew.cell? ⟨w.heap.size, 0, none⟩ = some (.int .i64 0) := I0.c0
    have i1 : W.drew.drew.cell? ⟨w.heap.size, 1, none⟩ = some (.int .i64 0) := I0.c1
    have i2 : W.drew.drew.cell? ⟨w.heap.size, 2, none⟩ = some (.int .i64 0) := I0.c2
    have j0 : W.drew.cell? ⟨w.heap.size, 0, none⟩ = some (.int .i64 0) := I0.c0
    have j1 : W.drew.cell? ⟨w.heap.size, 1, none⟩ = some (.int .i64 0) := I0.c1
    have j2 : W.drew.cell? ⟨w.heap.size, 2, none⟩ = some (.int .i64 0) := I0.c2
    have c8 := H1.out.box.c8
    have c12 := H1.out.box.c12
    have HI := Lib.hid I0
    clear hW I0
    have g1 : decide (t.nt < 0) = false := decide_eq_false (by omega)
    have g2 : decide ((l.length : Int) ≤ t.nt) = true := decide_eq_true hk2
    clear hk hk2
    go_region
    go_wp2
    have z := HI.out.set3 (0) (0) (0)
    have hb : Below w.heap.size w (((W.setCell ⟨w.heap.size, 0, none⟩ (.int .i64 (0))).setCell ⟨w.heap.size, 1, none⟩ (.int .i64 (0))).setCell ⟨w.heap.size, 2, none⟩ (.int .i64 (0))) := ((HB.out.setCell (Nat.le_refl _) _).setCell (Nat.le_refl _) _).setCell (Nat.le_refl _) _
    generalize ((W.setCell ⟨w.heap.size, 0, none⟩ (.int .i64 (0))).setCell ⟨w.heap.size, 1, none⟩ (.int .i64 (0))).setCell ⟨w.heap.size, 2, none⟩ (.int .i64 (0)) = W2 at *
    refine bodyPost_ret (v := .tuple #[.agg #[.int .i64 (0), .int .i64 (0), .int .i64 (0)], .bool false]) (by simp [results, Tryz.results112, go_sem, z.c0, z.c1, z.c2]) rfl ?_
    exact ⟨rfl, H.out.fresh hb.drew⟩
  · have eb : itB l t.nt = true := decide_eq_true (by omega)
    rw [show itG l t.nt = l.getD t.nt.toNat (0, 0, 0) from if_pos eb, eb]
    obtain ⟨n, hn⟩ : ∃ n : Nat, t.nt = (n : Int) := ⟨t.nt.toNat, by omega⟩
    have e1 : t.nt.toNat = n := by omega
    rw [e1]
    have H := Lib.hid h
    clear h
    go_enter Tryz.func112, Tryz.ntmps112
    go_upto_region 1 with (fail)
    generalize hW : w.alloc (.cells #[.int .i64 0, .int .i64 0, .int .i64 0] 68) = W
    have I0 : IB W w.heap.size (0, 0, 0) := by subst hW; exact IB.new w (0, 0, 0)
    have HB := Lib.hid (show Below w.heap.size w W by subst hW; exact (Below.refl _ _).alloc (Nat.le_refl _) _)
    have H1 := Lib.hid (H.out.fresh HB.out).drew
    have jw : ∀ j, W.frozen? ⟨w.heap.size, j, none⟩ = false := I0.f
    have w0' := I0.c0
    have w1' := I0.c1
    have w2' := I0.c2
    have jf : ∀ j, W.drew.frozen? ⟨w.heap.size, j, none⟩ = false := I0.f
    have jg : ∀ j, W.drew.drew.frozen? ⟨w.heap.size, j, none⟩ = false := I0.f
    have i0 : W.drew.drew.cell? ⟨w.heap.size, 0, none⟩ = some (.int .i64 0) := I0.c0
    have i1 : W.drew.drew.cell? ⟨w.heap.size, 1, none⟩ = some (.int .i64 0) := I0.c1
    have i2 : W.drew.drew.cell? ⟨w.heap.size, 2, none⟩ = some (.int .i64 0) := I0.c2
    have j0 : W.drew.cell? ⟨w.heap.size, 0, none⟩ = some (.int .i64 0) := I0.c0
    have j1 : W.drew.cell? ⟨w.heap.size, 1, none⟩ = some (.int .i64 0) := I0.c1
    have j2 : W.drew.cell? ⟨w.heap.size, 2, none⟩ = some (.int .i64 0) := I0.c2
    have c8 := H1.out.box.c8
    have c12 := H1.out.box.c12
    have HI := Lib.hid I0
    clear hW I0
    have g1 : decide ((n : Int) < 0) = false := decide_eq_false (by omega)
    have g2 : decide (l.length ≤ n) = false := decide_eq_false (by omega)
    have hn2 : n < l.length := by omega
    rw [hn] at c8
    obtain ⟨g, cap, eb2, hc, k0, k1, k2⟩ := H1.out.row.at (n := n) hn2
    rw [eb2] at c12
    have d8 : W.drew.drew.cell? ⟨N, 8, none⟩ = some (.int .i64 (n : Int)) := c8
    have d12 : W.drew.drew.cell? ⟨N, 12, none⟩ = some (.slice (some ⟨g, 0, none⟩) l.length cap) := c12
    obtain ⟨i, hi⟩ : ∃ i, l.getD n (0, 0, 0) = i := ⟨_, rfl⟩
    rw [hi] at k0 k1 k2
    have HG := Lib.hid hi
    clear hi
    have m0 : W.drew.drew.cell? ⟨g, n * 3, none⟩ = some (.int .i64 i.1) := k0
    have m1 : W.drew.drew.cell? ⟨g, n * 3 + 1, none⟩ = some (.int .i64 i.2.1) := k1
    have m2 : W.drew.drew.cell? ⟨g, n * 3 + 2, none⟩ = some (.int .i64 i.2.2) := k2
    clear eb hn e1 eb2 hk hk2
    go_region
    go_wp2
    go_region
    go_wp2
    have z := HI.out.set3 (i.1) (i.2.1) (i.2.2)
    have hb : Below w.heap.size w (((W.setCell ⟨w.heap.size, 0, none⟩ (.int .i64 (i.1))).setCell ⟨w.heap.size, 1, none⟩ (.int .i64 (i.2.1))).setCell ⟨w.heap.size, 2, none⟩ (.int .i64 (i.2.2))) := ((HB.out.setCell (Nat.le_refl _) _).setCell (Nat.le_refl _) _).setCell (Nat.le_refl _) _
    generalize ((W.setCell ⟨w.heap.size, 0, none⟩ (.int .i64 (i.1))).setCell ⟨w.heap.size, 1, none⟩ (.int .i64 (i.2.1))).setCell ⟨w.heap.size, 2, none⟩ (.int .i64 (i.2.2)) = W2 at *
    refine bodyPost_ret (v := .tuple #[.agg #[.int .i64 (i.1), .int .i64 (i.2.1), .int .i64 (i.2.2)], .bool true]) (by simp [results, Tryz.results112, go_sem, z.c0, z.c1, z.c2]) rfl ?_
    exact ⟨by rw [HG.out], H.out.fresh hb.drew.drew⟩
end

end Go.Proofs.YtikaoikladbdpaaGreat.M2
