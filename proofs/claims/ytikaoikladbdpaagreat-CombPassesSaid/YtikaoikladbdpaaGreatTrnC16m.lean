/-
  What is done at the places 22 and 34 of who serves (package comb): the batch is put away, or an item comes behind it. Conditions: a turn beside its memory, as CM says; its batch's row is new; steps below a million.
-/
import Derived.Test.YtikaoikladbdpaaGreatTrnB16m
import Derived.OwnWalkIn
import Derived.Deep.RegionLaw
namespace Go.Proofs.YtikaoikladbdpaaGreat.M2
open Go.RowKit

section
variable {w0 w w' : World} {M B p N : Nat} {v0 : Value} {size : Int} {t : Th} {b b' o : Value} {pa : Int} {dn : Value} {l l' : List It3} {zs : List Int} {st : Int}

theorem CM.grown (h : CM w0 M B p N v0 size t b o pa dn l zs st w) (hM : w0.heap.size ≤ M) (r : BR M w' b' l') (hg : w.grownBy w' b.ownBlock) : CM w0 M B p N v0 size t b' o pa dn l' zs st (w'.setCell ⟨N, 12, none⟩ b') := by
  have ne : ∀ {k : Nat} {cs : Array Value} {ty : TypeId}, w.heap[k]? = some (Obj.cells cs ty (0, 0)) → ty ≠ 68 → w'.heap[k]? = w.heap[k]? := fun {k cs ty} e hty => hg.block k (lt_of_block e) (fun e2 => by
    obtain ⟨cs', e'⟩ := h.row.block e2.symm
    rw [e] at e'
    simp only [Option.some.injEq, Obj.cells.injEq] at e'
    exact hty e'.2.1)
  obtain ⟨u, m, wr, lt⟩ := h.did
  have m' : Mem w' B p u size zs st := m.keep (ne m.block (by decide)) (fun g hgo => by
    rcases m.own.2 with ⟨rfl, _⟩ | ⟨g', cap, cur, rfl, _, hgg, _⟩
    · simp [Value.ownBlock] at hgo
    · simp only [Value.ownBlock, Option.some.injEq] at hgo
      subst hgo
      exact ne hgg (by decide))
  have wr' : Wrote p v0 w0 w' := ⟨hg.os.trans wr.os, hg.tape.trans wr.tape, hg.output.trans wr.output, Nat.le_trans wr.size hg.size, fun k hk h1 h2 => (hg.block k (Nat.lt_of_lt_of_le hk wr.size) (fun e => by have := (h.row.lt k e.symm).1; omega)).trans (wr.block k hk h1 h2)⟩
  have box : TC w' N p t b o pa dn := (ne h.box (by decide)).trans h.box
  refine ⟨box.s12 b', ⟨u, m'.setOther (q := ⟨N, 12, none⟩) ?_ ?_ _, wr'.setCell (q := ⟨N, 12, none⟩) (.inl h.far) _, lt⟩, h.far, r.keep fun g hgo => Below.heap_setCell _ _ _ _ ?_, by simpa [World.setCell] using Nat.le_trans h.rowM hg.size⟩
  · rintro e
    have e : N = p := e
    subst e
    have e1 := m'.block
    unfold TC at box
    rw [box] at e1
    simp at e1
  · intro e
    have e : u.ownBlock = some N := e
    rcases m'.own.2 with ⟨rfl, _⟩ | ⟨g, cap, cur, rfl, _, hgg, _⟩
    · simp [Value.ownBlock] at e
    · simp only [Value.ownBlock, Option.some.injEq] at e
      subst e
      unfold TC at box
      rw [box] at hgg
      simp at hgg
  · rintro e
    have e : g = N := e
    subst e
    obtain ⟨cs, hc⟩ := r.block hgo
    unfold TC at box
    rw [box] at hc
    simp at hc

theorem CM.boxG (h : CM w0 M B p N v0 size t b o pa dn l zs st w) (hg : w.grownBy w' b.ownBlock) : TC w' N p t b o pa dn := by
  refine (hg.block N h.box.lt (fun e2 => ?_)).trans h.box
  obtain ⟨cs', e'⟩ := h.row.block e2.symm
  have e := h.box
  unfold TC at e
  rw [e] at e'
  simp at e'

theorem item_cells (w : World) (a b c : Int) (t : TypeId) : ∀ j u, ([.int .i64 a, .int .i64 b, .int .i64 c] : List Value)[j]? = some u → (w.alloc (.cells #[.int .i64 a, .int .i64 b, .int .i64 c] t)).cell? ((⟨w.heap.size, 0, none⟩ : Addr).add j) = some u := by
  intro j u hu
  match j with
  | 0 => simp at hu; subst hu; go_simp
  | 1 => simp at hu; subst hu; go_simp
  | 2 => simp at hu; subst hu; go_simp
  | j + 3 => simp at hu
theorem item_one (a b c : Int) : ∀ u ∈ ([.int .i64 a, .int .i64 b, .int .i64 c] : List Value), u.oneCell' = true := by
  intro u hu
  simp at hu
  rcases hu with rfl | rfl | rfl <;> rfl
theorem BR.app {v' : Value} {i : It3} (h : w.ownsRow M 68 3 v' (l.length + 1) (fi l ++ [.int .i64 i.1, .int .i64 i.2.1, .int .i64 i.2.2])) : BR M w v' (l ++ [i]) := by
  unfold BR
  rw [List.length_append, show fi (l ++ [i]) = fi l ++ [.int .i64 i.1, .int .i64 i.2.1, .int .i64 i.2.2] by simp [fi]]
  exact h

set_option maxRecDepth 100000 in
set_option maxHeartbeats 1600000 in
theorem manyP (h : CM w0 M B p N v0 size t b o pa dn l zs st w) : Calls Tryz.prog 74 #[.pointer (some ⟨N, 0, none⟩)] w fun e w' => e = .returned (.tuple #[]) ∧ CM w0 M B p N v0 size { t with mx := (mn zs.length : Nat), nt := 0, pc := fk (decide (((mn zs.length : Nat) : Int) = 0)) 33 23 } (.slice none 0 0) o pa dn [] zs st w' := by
  have c13 := h.box.c13
  have C1 := many1 h.mem
  generalize (mn zs.length : Nat) = n at *
  have hx : ∀ x y : Int, fk (decide ((n : Int) = 0)) x y = fk ((n : Int) == 0) x y := fun x y => by
    by_cases e : (n : Int) = 0
    · rw [decide_eq_true e, e]; rfl
    · rw [decide_eq_false e, show ((n : Int) == 0) = false by simpa using e]
  rw [hx]
  go_enter Tryz.func74, Tryz.ntmps74
  go_wp2_with fail
  with_reducible refine C1.mono ?_
  clear C1
  rintro e w' ⟨rfl, rfl⟩
  have c9 := h.box.c9
  have cf := h.box.f
  have h1 := h.s9 (n : Int)
  have c8 := h1.box.c8
  have cf1 := h1.box.f
  have h2 := h1.s8 0
  have c12 := h2.box.c12
  have cf2 := h2.box.f
  have h3 := h2.put (h2.box.s12 (.slice none 0 0)) (BR.nil M _)
  have d9 := h3.box.c9
  have C4 := Lib.hid (forkT h3 ((n : Int) == 0) 33 23)
  clear h h1 h2 h3 hx
  go_wp2_with fail
  with_reducible refine C4.out.mono ?_
  clear C4
  rintro e w3 ⟨rfl, h4⟩
  have H9 := Lib.hid h4
  clear h4
  go_wp2
  go_end0
  exact ⟨rfl, H9.out⟩

theorem infoIt : (Tryz.prog.info? 68).map (fun i => (i.zero, i.size, i.bytes)) = some (some (.agg #[.int .i64 0, .int .i64 0, .int .i64 0]), 3, 24) := by kernel_rfl

set_option maxRecDepth 100000 in
set_option maxHeartbeats 1600000 in
theorem pickP (h : CM w0 M B p N v0 size t b o pa dn l zs st w) (hM : w0.heap.size ≤ M) (hl : l.length ≤ 1000) (k0 : 0 ≤ st) (k1 : st < 1000000) : Calls Tryz.prog 86 #[.pointer (some ⟨N, 0, none⟩)] w fun e w' => e = .returned (.tuple #[]) ∧ ∃ b', CM w0 M B p N v0 size { t with lk := ld zs (ad t.cu 0), pc := 35 } b' o pa dn (if 0 < ld zs (ad t.cu 0) then l ++ [(t.cu, ld zs (ad t.cu 0), 0)] else l) zs (st + cn zs (ad t.cu 0)) w' := by
  obtain ⟨j0, hj, hy0, hy1, hy2⟩ := info_parts infoIt
  have HJ := Lib.hid hj
  have HY0 := Lib.hid hy0
  have HY1 := Lib.hid hy1
  have HY2 := Lib.hid hy2
  clear hj hy0 hy1 hy2
  have C1 := hereT h 0
  have C2 := loadT h (ad t.cu 0) k0 k1
  clear h
  generalize cn zs (ad t.cu 0) = c at *
  generalize ld zs (ad t.cu 0) = x at *
  by_cases hx : 0 < x
  · rw [if_pos hx]
    go_enter Tryz.func86, Tryz.ntmps86
    go_wp2_with fail
    with_reducible refine C1.mono ?_
    clear C1
    rintro e w' ⟨rfl, rfl⟩
    go_wp2_with fail
    with_reducible refine C2.mono ?_
    clear C2
    rintro e w2 ⟨rfl, h2⟩
    have C3 := asksAny x w2
    rw [decide_eq_true hx] at C3
    go_wp2_with fail
    with_reducible refine C3.mono ?_
    clear C3
    rintro e w' ⟨rfl, rfl⟩
    have hd := h2.drew
    have c12 := hd.box.c12
    have c6 := hd.box.c6
    have c5 := hd.box.c5
    have hh := hd.fresh (show Below w2.drew.heap.size w2.drew (w2.drew.alloc (.cells #[.int .i64 t.cu, .int .i64 x, .int .i64 0] 68)) from (Below.refl _ _).alloc (Nat.le_refl _) _)
    have HH := Lib.hid hh
    have g12 : (w2.alloc (.cells #[.int .i64 t.cu, .int .i64 x, .int .i64 0] 68)).cell? ⟨N, 12, none⟩ = some b := hh.box.c12
    have HLn := Lib.hid hl
    clear h2 hx hd hh
    go_wp2
    go_region_law (refine step_append_own _ rfl _ _ 23 rfl M 68 j0 _ 3 24 Tryz.underlying23 HJ.out HY0.out HY1.out HY2.out rfl (by decide) _ _ _ rfl HH.out.row ⟨w2.heap.size, 0, none⟩ 1 1 [.int .i64 t.cu, .int .i64 x, .int .i64 0] rfl rfl (item_cells w2.drew _ _ _ _) (item_one _ _ _) (by have := HLn.out; simp only [maxLen]; omega) (by have := HLn.out; omega) (HH.out.rowM) ?_; intro v' w4 hown' hgrow; obtain ⟨ao', cap', rfl⟩ := _root_.Go.Proofs.YtikaoikladbdpaaGreat.ownShape hown'; have hbx := HH.out.boxG hgrow; have d12 := hbx.c12; have df := hbx.f; have H5 := Lib.hid (HH.out.grown hM (BR.app (i := (t.cu, x, 0)) hown') hgrow); clear hown' hgrow hbx)
    all_goals
      have e1 := H5.out.box.c1
      have ef := H5.out.box.f
      have H9 := Lib.hid (H5.out.s1 35)
      go_wp2
      go_end0
      exact ⟨rfl, _, H9.out⟩
  · rw [if_neg hx]
    go_enter Tryz.func86, Tryz.ntmps86
    go_wp2_with fail
    with_reducible refine C1.mono ?_
    clear C1
    rintro e w' ⟨rfl, rfl⟩
    go_wp2_with fail
    with_reducible refine C2.mono ?_
    clear C2
    rintro e w2 ⟨rfl, h2⟩
    have C3 := asksAny x w2
    rw [decide_eq_false (by omega)] at C3
    go_wp2_with fail
    with_reducible refine C3.mono ?_
    clear C3
    rintro e w' ⟨rfl, rfl⟩
    have c1 := h2.box.c1
    have cf := h2.box.f
    have H9 := Lib.hid (h2.s1 35)
    clear h2
    go_wp2
    go_end0
    exact ⟨rfl, _, H9.out⟩
end

end Go.Proofs.YtikaoikladbdpaaGreat.M2
