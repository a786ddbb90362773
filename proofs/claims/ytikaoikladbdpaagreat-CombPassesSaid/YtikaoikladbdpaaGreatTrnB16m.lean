/-
  What is done at the places of who serves (package comb), but 22, 34 and 36: the thread behind it, the cells, the steps. Conditions: a turn beside its memory, as CM says; steps below a million.
-/
import Derived.Test.YtikaoikladbdpaaGreatTrnA16m
import Derived.Deep.RegionHeld3
import Derived.Deep.Cut
namespace Go.Proofs.YtikaoikladbdpaaGreat.M2
open Go.RowKit

section
variable {w0 w : World} {M B p N : Nat} {v0 : Value} {size : Int} {t : Th} {b o : Value} {pa : Int} {dn : Value} {l : List It3} {zs : List Int} {st : Int}

set_option maxRecDepth 100000 in
set_option maxHeartbeats 1600000 in
theorem passP (h : CM w0 M B p N v0 size t b o pa dn l zs st w) (k0 : 0 ≤ st) (k1 : st < 1000000) : Calls Tryz.prog 72 #[.pointer (some ⟨N, 0, none⟩)] w fun e w' => e = .returned (.tuple #[]) ∧ CM w0 M B p N v0 size { t with lk := ld zs 2, pc := 21 } b o pa dn l zs (st + cn zs 2) w' := by
  have C1 := loadT h 2 k0 k1
  clear h
  go_enter Tryz.func72, Tryz.ntmps72
  go_wp2_with fail
  with_reducible refine C1.mono ?_
  clear C1
  rintro e w1 ⟨rfl, h1⟩
  have c1 := h1.box.c1
  have cf := h1.box.f
  have H9 := Lib.hid (h1.s1 21)
  clear h1
  go_wp2
  first | go_end0 | refine bodyPost_ret (results_none rfl _ _ _) rfl ?_
  exact ⟨rfl, H9.out⟩

set_option maxRecDepth 100000 in
set_option maxHeartbeats 1600000 in
theorem pendP (h : CM w0 M B p N v0 size t b o pa dn l zs st w) (k0 : 0 ≤ st) (k1 : st < 1000000) : Calls Tryz.prog 76 #[.pointer (some ⟨N, 0, none⟩)] w fun e w' => e = .returned (.tuple #[]) ∧ CM w0 M B p N v0 size (hlT (decide (0 < ld zs (ad t.cu 0))) 25 { t with lk := ld zs (ad t.cu 0) }) b o pa dn l zs (st + cn zs (ad t.cu 0)) w' := by
  have C1 := hereT h 0
  have C2 := loadT h (ad t.cu 0) k0 k1
  clear h
  go_enter Tryz.func76, Tryz.ntmps76
  go_wp2_with fail
  with_reducible refine C1.mono ?_
  clear C1
  rintro e w' ⟨rfl, rfl⟩
  go_wp2_with fail
  with_reducible refine C2.mono ?_
  clear C2
  rintro e w2 ⟨rfl, h2⟩
  have C3 := asksAny (ld zs (ad t.cu 0)) w2
  go_wp2_with fail
  with_reducible refine C3.mono ?_
  clear C3
  rintro e w' ⟨rfl, rfl⟩
  have C4 := helpsT h2 (decide (0 < ld zs (ad t.cu 0))) 25
  clear h2
  go_wp2_with fail
  with_reducible refine C4.mono ?_
  clear C4
  rintro e w4 ⟨rfl, h4⟩
  have H9 := Lib.hid h4
  clear h4
  go_wp2
  first | go_end0 | refine bodyPost_ret (results_none rfl _ _ _) rfl ?_
  exact ⟨rfl, H9.out⟩

set_option maxRecDepth 100000 in
set_option maxHeartbeats 1600000 in
theorem helpP (h : CM w0 M B p N v0 size t b o pa dn l zs st w) (k0 : 0 ≤ st) (k1 : st < 1000000) : Calls Tryz.prog 77 #[.pointer (some ⟨N, 0, none⟩)] w fun e w' => e = .returned (.tuple #[]) ∧ CM w0 M B p N v0 size (hlT (swb zs (ad t.cu 1) 0) 26 t) b o pa dn l (swp zs (ad t.cu 1) 0 2) (st + cn zs (ad t.cu 1)) w' := by
  have C1 := hereT h 1
  have C2 := swapT h (ad t.cu 1) 0 2 k0 k1
  clear h
  go_enter Tryz.func77, Tryz.ntmps77
  go_wp2_with fail
  with_reducible refine C1.mono ?_
  clear C1
  rintro e w' ⟨rfl, rfl⟩
  go_wp2_with fail
  with_reducible refine C2.mono ?_
  clear C2
  rintro e w2 ⟨rfl, h2⟩
  have C4 := helpsT h2 (swb zs (ad t.cu 1) 0) 26
  clear h2
  go_wp2_with fail
  with_reducible refine C4.mono ?_
  clear C4
  rintro e w4 ⟨rfl, h4⟩
  have H9 := Lib.hid h4
  clear h4
  go_wp2
  first | go_end0 | refine bodyPost_ret (results_none rfl _ _ _) rfl ?_
  exact ⟨rfl, H9.out⟩

set_option maxRecDepth 100000 in
set_option maxHeartbeats 1600000 in
theorem bareP (h : CM w0 M B p N v0 size t b o pa dn l zs st w) (k0 : 0 ≤ st) (k1 : st < 1000000) : Calls Tryz.prog 79 #[.pointer (some ⟨N, 0, none⟩)] w fun e w' => e = .returned (.tuple #[]) ∧ CM w0 M B p N v0 size { t with pc := 28 } b o pa dn l (sto zs (ad t.cu 3) 0) (st + cn zs (ad t.cu 3)) w' := by
  have C1 := hereT h 3
  have C2 := storeT h (ad t.cu 3) 0 k0 k1
  clear h
  go_enter Tryz.func79, Tryz.ntmps79
  go_wp2_with fail
  with_reducible refine C1.mono ?_
  clear C1
  rintro e w' ⟨rfl, rfl⟩
  go_wp2_with fail
  with_reducible refine C2.mono ?_
  clear C2
  rintro e w2 ⟨rfl, h2⟩
  have c1 := h2.box.c1
  have cf := h2.box.f
  have H9 := Lib.hid (h2.s1 28)
  clear h2
  go_wp2
  first | go_end0 | refine bodyPost_ret (results_none rfl _ _ _) rfl ?_
  exact ⟨rfl, H9.out⟩

set_option maxRecDepth 100000 in
set_option maxHeartbeats 1600000 in
theorem seenP (h : CM w0 M B p N v0 size t b o pa dn l zs st w) (k0 : 0 ≤ st) (k1 : st < 1000000) : Calls Tryz.prog 84 #[.pointer (some ⟨N, 0, none⟩)] w fun e w' => e = .returned (.tuple #[]) ∧ CM w0 M B p N v0 size (onT t) b o pa dn l (sto zs (ad t.cu 1) 1) (st + cn zs (ad t.cu 1)) w' := by
  have C1 := hereT h 1
  have C2 := storeT h (ad t.cu 1) 1 k0 k1
  clear h
  go_enter Tryz.func84, Tryz.ntmps84
  go_wp2_with fail
  with_reducible refine C1.mono ?_
  clear C1
  rintro e w' ⟨rfl, rfl⟩
  go_wp2_with fail
  with_reducible refine C2.mono ?_
  clear C2
  rintro e w2 ⟨rfl, h2⟩
  have C4 := goOnT h2
  clear h2
  go_wp2_with fail
  with_reducible refine C4.mono ?_
  clear C4
  rintro e w4 ⟨rfl, h4⟩
  have H9 := Lib.hid h4
  clear h4
  go_wp2
  first | go_end0 | refine bodyPost_ret (results_none rfl _ _ _) rfl ?_
  exact ⟨rfl, H9.out⟩

set_option maxRecDepth 100000 in
set_option maxHeartbeats 1600000 in
theorem scanP (h : CM w0 M B p N v0 size t b o pa dn l zs st w) (k0 : 0 ≤ st) (k1 : st < 1000000) : Calls Tryz.prog 85 #[.pointer (some ⟨N, 0, none⟩)] w fun e w' => e = .returned (.tuple #[]) ∧ CM w0 M B p N v0 size (foT 40 { t with lk := ld zs 1 }) b o pa dn l zs (st + cn zs 1) w' := by
  have C1 := loadT h 1 k0 k1
  clear h
  go_enter Tryz.func85, Tryz.ntmps85
  go_wp2_with fail
  with_reducible refine C1.mono ?_
  clear C1
  rintro e w1 ⟨rfl, h1⟩
  have C4 := followT h1 40
  clear h1
  go_wp2_with fail
  with_reducible refine C4.mono ?_
  clear C4
  rintro e w4 ⟨rfl, h4⟩
  have H9 := Lib.hid h4
  clear h4
  go_wp2
  first | go_end0 | refine bodyPost_ret (results_none rfl _ _ _) rfl ?_
  exact ⟨rfl, H9.out⟩

set_option maxRecDepth 100000 in
set_option maxHeartbeats 1600000 in
theorem firstP (h : CM w0 M B p N v0 size t b o pa dn l zs st w) (k0 : 0 ≤ st) (k1 : st < 1000000) : Calls Tryz.prog 78 #[.pointer (some ⟨N, 0, none⟩)] w fun e w' => e = .returned (.tuple #[]) ∧ CM w0 M B p N v0 size (if ld zs 1 = 0 then { t with lk := ld zs 1, pc := 27 } else { t with lk := ld zs 1, pv := ld zs 1, pc := 29 }) b o pa dn l zs (st + cn zs 1) w' := by
  have C1 := loadT h 1 k0 k1
  clear h
  by_cases hz : ld zs 1 = 0
  · rw [if_pos hz]
    rw [hz] at C1 ⊢
    clear hz
    go_enter Tryz.func78, Tryz.ntmps78
    go_wp2_with fail
    with_reducible refine C1.mono ?_
    clear C1
    rintro e w1 ⟨rfl, h1⟩
    have c1 := h1.box.c1
    have cf := h1.box.f
    have H9 := Lib.hid (h1.s1 27)
    clear h1
    go_wp2
    first | go_end0 | refine bodyPost_ret (results_none rfl _ _ _) rfl ?_
    exact ⟨rfl, H9.out⟩
  · rw [if_neg hz]
    have hq : (ld zs 1 == 0) = false := by simpa using hz
    generalize ld zs 1 = x at *
    clear hz
    go_enter Tryz.func78, Tryz.ntmps78
    go_wp2_with fail
    with_reducible refine C1.mono ?_
    clear C1
    rintro e w1 ⟨rfl, h1⟩
    have c5 := h1.box.c5
    have c7 := h1.box.c7
    have cf := h1.box.f
    have h2 := h1.s7 x
    have c1 := h2.box.c1
    have cg := h2.box.f
    have H9 := Lib.hid (h2.s1 29)
    clear h1 h2
    go_wp2
    first | go_end0 | refine bodyPost_ret (results_none rfl _ _ _) rfl ?_
    exact ⟨rfl, H9.out⟩

set_option maxRecDepth 100000 in
set_option maxHeartbeats 1600000 in
theorem afterP (h : CM w0 M B p N v0 size t b o pa dn l zs st w) (k0 : 0 ≤ st) (k1 : st < 1000000) : Calls Tryz.prog 81 #[.pointer (some ⟨N, 0, none⟩)] w fun e w' => e = .returned (.tuple #[]) ∧ CM w0 M B p N v0 size { t with lk := ld zs (ad t.pv 3), pc := 30 } b o pa dn l zs (st + cn zs (ad t.pv 3)) w' := by
  have c7 := h.box.c7
  have C1 := loadT h (wrap64 (t.pv + 3)) k0 k1
  clear h
  go_enter Tryz.func81, Tryz.ntmps81
  go_wp2_with fail
  with_reducible refine C1.mono ?_
  clear C1
  rintro e w1 ⟨rfl, h1⟩
  have c1 := h1.box.c1
  have cf := h1.box.f
  have H9 := Lib.hid (h1.s1 30)
  clear h1
  go_wp2
  first | go_end0 | refine bodyPost_ret (results_none rfl _ _ _) rfl ?_
  exact ⟨rfl, H9.out⟩

set_option maxRecDepth 100000 in
set_option maxHeartbeats 1600000 in
theorem soloP (h : CM w0 M B p N v0 size t b o pa dn l zs st w) (k0 : 0 ≤ st) (k1 : st < 1000000) : Calls Tryz.prog 80 #[.pointer (some ⟨N, 0, none⟩)] w fun e w' => e = .returned (.tuple #[]) ∧ CM w0 M B p N v0 size { t with pc := fk (swb zs 1 0) 32 26 } b o pa dn l (swp zs 1 0 t.cu) (st + cn zs 1) w' := by
  have c6 := h.box.c6
  have C1 := swapT h 1 0 t.cu k0 k1
  clear h
  go_enter Tryz.func80, Tryz.ntmps80
  go_wp2_with fail
  with_reducible refine C1.mono ?_
  clear C1
  rintro e w1 ⟨rfl, h1⟩
  have C4 := forkT h1 (swb zs 1 0) 32 26
  clear h1
  go_wp2_with fail
  with_reducible refine C4.mono ?_
  clear C4
  rintro e w4 ⟨rfl, h4⟩
  have H9 := Lib.hid h4
  clear h4
  go_wp2
  first | go_end0 | refine bodyPost_ret (results_none rfl _ _ _) rfl ?_
  exact ⟨rfl, H9.out⟩

set_option maxRecDepth 100000 in
set_option maxHeartbeats 1600000 in
theorem tieP (h : CM w0 M B p N v0 size t b o pa dn l zs st w) (k0 : 0 ≤ st) (k1 : st < 1000000) : Calls Tryz.prog 82 #[.pointer (some ⟨N, 0, none⟩)] w fun e w' => e = .returned (.tuple #[]) ∧ CM w0 M B p N v0 size { t with pc := 31 } b o pa dn l (sto zs (ad t.cu 3) t.lk) (st + cn zs (ad t.cu 3)) w' := by
  have hd := h.drew
  have i0 : (fun w' : World => w'.cell? ⟨N, 5, none⟩ = some (.int .i64 (t.lk))) _ := hd.box.c5
  have C1 := hereT hd 3
  have C2 := storeT hd (ad t.cu 3) t.lk k0 k1
  clear h hd
  go_enter Tryz.func82, Tryz.ntmps82
  go_wp2
  go_region_held3 (fun w' : World => w'.cell? ⟨N, 5, none⟩ = some (.int .i64 (t.lk))) (first | exact i0 | exact i1 | exact i2 | exact i3 | exact i4) (first
    | ((with_reducible refine C1.mono ?_); rintro e w1 ⟨rfl, rfl⟩; clear C1)
    | ((with_reducible refine C2.mono ?_); rintro e w1 ⟨rfl, h9⟩; have i2 : (fun w' : World => w'.cell? ⟨N, 5, none⟩ = some (.int .i64 (t.lk))) _ := h9.box.c5; clear C2))
  all_goals (have c1 := h9.box.c1; have cf := h9.box.f; have H9 := Lib.hid (h9.s1 31); clear h9; go_wp2; first | go_end0 | refine bodyPost_ret (results_none rfl _ _ _) rfl ?_)
  all_goals exact ⟨rfl, H9.out⟩

set_option maxRecDepth 100000 in
set_option maxHeartbeats 1600000 in
theorem setP (h : CM w0 M B p N v0 size t b o pa dn l zs st w) (k0 : 0 ≤ st) (k1 : st < 1000000) : Calls Tryz.prog 83 #[.pointer (some ⟨N, 0, none⟩)] w fun e w' => e = .returned (.tuple #[]) ∧ CM w0 M B p N v0 size { t with pc := 32 } b o pa dn l (sto zs (ad t.pv 3) t.cu) (st + cn zs (ad t.pv 3)) w' := by
  have hd := h.drew
  have i0 : (fun w' : World => w'.cell? ⟨N, 6, none⟩ = some (.int .i64 (t.cu)) ∧ w'.cell? ⟨N, 7, none⟩ = some (.int .i64 (t.pv))) _ := ⟨hd.box.c6, hd.box.c7⟩
  have C2 := storeT hd (IntKind.i64.wrap (t.pv + 3)) t.cu k0 k1
  clear h hd
  go_enter Tryz.func83, Tryz.ntmps83
  go_wp2
  go_region_held3 (fun w' : World => w'.cell? ⟨N, 6, none⟩ = some (.int .i64 (t.cu)) ∧ w'.cell? ⟨N, 7, none⟩ = some (.int .i64 (t.pv))) (first | exact i0 | exact i1 | exact i2 | exact i3 | exact i4) (first
    | ((with_reducible refine C2.mono ?_); rintro e w1 ⟨rfl, h9⟩; rw [IntWalk.i64_left] at h9; have i2 : (fun w' : World => w'.cell? ⟨N, 6, none⟩ = some (.int .i64 (t.cu)) ∧ w'.cell? ⟨N, 7, none⟩ = some (.int .i64 (t.pv))) _ := ⟨h9.box.c6, h9.box.c7⟩; clear C2))
  all_goals (have c1 := h9.box.c1; have cf := h9.box.f; have H9 := Lib.hid (h9.s1 32); clear h9; go_wp2; first | go_end0 | refine bodyPost_ret (results_none rfl _ _ _) rfl ?_)
  all_goals exact ⟨rfl, H9.out⟩

set_option maxRecDepth 100000 in
set_option maxHeartbeats 1600000 in
theorem stampP (h : CM w0 M B p N v0 size t b o pa dn l zs st w) (k0 : 0 ≤ st) (k1 : st < 1000000) : Calls Tryz.prog 73 #[.pointer (some ⟨N, 0, none⟩)] w fun e w' => e = .returned (.tuple #[]) ∧ CM w0 M B p N v0 size { t with ps := ad t.lk 1, rn := ad t.rn 1, pc := 22 } b o pa dn l (sto zs 2 (ad t.lk 1)) (st + cn zs 2) w' := by
  have c5 := h.box.c5
  have c10 := h.box.c10
  have cf := h.box.f
  have h1 := h.s10 (wrap64 (t.lk + 1))
  have c11 := h1.box.c11
  have cg := h1.box.f
  have h2 := h1.s11 (wrap64 (t.rn + 1))
  have d10 := h2.box.c10
  have C := storeT h2 2 (wrap64 (t.lk + 1)) k0 k1
  have HC := Lib.hid C
  clear h h1 h2 C
  go_enter Tryz.func73, Tryz.ntmps73
  go_wp2_with fail
  with_reducible refine HC.out.mono ?_
  clear HC
  rintro e w3 ⟨rfl, h3⟩
  have c1 := h3.box.c1
  have cf := h3.box.f
  have H9 := Lib.hid (h3.s1 22)
  clear h3
  go_wp2
  first | go_end0 | refine bodyPost_ret (results_none rfl _ _ _) rfl ?_
  exact ⟨rfl, H9.out⟩

set_option maxRecDepth 100000 in
set_option maxHeartbeats 1600000 in
theorem lookP (h : CM w0 M B p N v0 size t b o pa dn l zs st w) (k0 : 0 ≤ st) (k1 : st < 1000000) : Calls Tryz.prog 75 #[.pointer (some ⟨N, 0, none⟩)] w fun e w' => e = .returned (.tuple #[]) ∧ CM w0 M B p N v0 size (hlT (ld zs (ad (bs t.nt) 1) == 0) 24 { t with cu := bs t.nt, lk := ld zs (ad (bs t.nt) 1) }) b o pa dn l zs (st + cn zs (ad (bs t.nt) 1)) w' := by
  have c8 := h.box.c8
  have C1 := baseAny t.nt w
  go_enter Tryz.func75, Tryz.ntmps75
  go_wp2_with fail
  with_reducible refine C1.mono ?_
  clear C1
  rintro e w' ⟨rfl, rfl⟩
  have c6 := h.box.c6
  have cf := h.box.f
  have h1 := h.s6 (bs t.nt)
  have C2 := hereT h1 1
  have C3 := loadT h1 (ad (bs t.nt) 1) k0 k1
  have HC := Lib.hid C3
  clear h h1 C3
  go_wp2_with fail
  with_reducible refine C2.mono ?_
  clear C2
  rintro e w' ⟨rfl, rfl⟩
  go_wp2_with fail
  with_reducible refine HC.out.mono ?_
  clear HC
  rintro e w3 ⟨rfl, h3⟩
  have C4 := helpsT h3 (ld zs (ad (bs t.nt) 1) == 0) 24
  clear h3
  go_wp2_with fail
  with_reducible refine C4.mono ?_
  clear C4
  rintro e w4 ⟨rfl, h4⟩
  have H9 := Lib.hid h4
  clear h4
  go_wp2
  first | go_end0 | refine bodyPost_ret (results_none rfl _ _ _) rfl ?_
  exact ⟨rfl, H9.out⟩

set_option maxRecDepth 100000 in
set_option maxHeartbeats 1600000 in
theorem nextP (h : CM w0 M B p N v0 size t b o pa dn l zs st w) (_ : l.length ≤ 1000) (k0 : 0 ≤ st) (k1 : st < 1000000) : Calls Tryz.prog 87 #[.pointer (some ⟨N, 0, none⟩)] w fun e w' => e = .returned (.tuple #[]) ∧ CM w0 M B p N v0 size (foT (if l.length = 0 then 40 else 36) { t with lk := ld zs (ad t.cu 3) }) b o pa dn l zs (st + cn zs (ad t.cu 3)) w' := by
  have C1 := hereT h 3
  have C2 := loadT h (ad t.cu 3) k0 k1
  clear h
  by_cases hz : l.length = 0
  · rw [if_pos hz]
    go_enter Tryz.func87, Tryz.ntmps87
    go_wp2_with fail
    with_reducible refine C1.mono ?_
    clear C1
    rintro e w' ⟨rfl, rfl⟩
    go_wp2_with fail
    with_reducible refine C2.mono ?_
    clear C2
    rintro e w2 ⟨rfl, h2⟩
    obtain ⟨ao, cap, rfl, _⟩ := h2.row.shape
    have c12 := h2.box.c12
    rw [hz] at c12
    have C4 := Lib.hid (followT h2 40)
    clear h2
    go_wp2_with fail
    with_reducible refine C4.out.mono ?_
    clear C4
    rintro e w4 ⟨rfl, h4⟩
    have H9 := Lib.hid h4
    clear h4
    go_wp2
    first | go_end0 | refine bodyPost_ret (results_none rfl _ _ _) rfl ?_
    exact ⟨rfl, H9.out⟩
  · rw [if_neg hz]
    go_enter Tryz.func87, Tryz.ntmps87
    go_wp2_with fail
    with_reducible refine C1.mono ?_
    clear C1
    rintro e w' ⟨rfl, rfl⟩
    go_wp2_with fail
    with_reducible refine C2.mono ?_
    clear C2
    rintro e w2 ⟨rfl, h2⟩
    obtain ⟨ao, cap, rfl, _⟩ := h2.row.shape
    have c12 := h2.box.c12
    have hq : (l.length == 0) = false := by simpa using hz
    have C4 := Lib.hid (followT h2 36)
    clear h2
    go_wp2_with fail
    with_reducible refine C4.out.mono ?_
    clear C4
    rintro e w4 ⟨rfl, h4⟩
    have H9 := Lib.hid h4
    clear h4
    go_wp2
    first | go_end0 | refine bodyPost_ret (results_none rfl _ _ _) rfl ?_
    exact ⟨rfl, H9.out⟩

set_option maxRecDepth 100000 in
set_option maxHeartbeats 1600000 in
theorem tellP (h : CM w0 M B p N v0 size t b o pa dn l zs st w) (hl : l.length ≤ 1000) (k0 : 0 ≤ st) (k1 : st < 1000000) : Calls Tryz.prog 89 #[.pointer (some ⟨N, 0, none⟩)] w fun e w' => e = .returned (.tuple #[]) ∧ CM w0 M B p N v0 size { t with pc := 38 } b o pa dn l (itS (itB l t.nt) zs (ad (itG l t.nt).1 4) (itG l t.nt).2.2) (st + itC (itB l t.nt) zs (ad (itG l t.nt).1 4)) w' := by
  have C1 := itemT h hl
  clear h
  by_cases hb : itB l t.nt = true
  · skip
    obtain ⟨i, hi⟩ : ∃ i, itG l t.nt = i := ⟨_, rfl⟩
    rw [hb, hi] at C1 ⊢
    rw [show itS true zs (ad i.1 4) i.2.2 = sto zs (ad i.1 4) i.2.2 from rfl, show itC true zs (ad i.1 4) = cn zs (ad i.1 4) from rfl]
    clear hi hb
    go_enter Tryz.func89, Tryz.ntmps89
    go_wp2_with fail
    with_reducible refine C1.mono ?_
    clear C1
    rintro e w1 ⟨rfl, h1⟩
    have h2 := h1.fresh (show Below w1.heap.size w1 (w1.alloc (.cells #[.int .i64 i.1, .int .i64 i.2.1, .int .i64 i.2.2] 68)) from (Below.refl _ _).alloc (Nat.le_refl _) _)
    clear h1
    have c10 := h2.box.c10
    have C2 := storeT h2 (wrap64 (i.1 + 4)) i.2.2 k0 k1
    clear h2
    go_wp2_with fail
    with_reducible refine C2.mono ?_
    clear C2
    rintro e w3 ⟨rfl, h3⟩
    have c1 := h3.box.c1
    have cf := h3.box.f
    have H9 := Lib.hid (h3.s1 38)
    clear h3
    go_wp2
    first | go_end0 | refine bodyPost_ret (results_none rfl _ _ _) rfl ?_
    exact ⟨rfl, H9.out⟩
  · have hb : itB l t.nt = false := by simpa using hb
    obtain ⟨i, hi⟩ : ∃ i, itG l t.nt = i := ⟨_, rfl⟩
    rw [hb, hi] at C1 ⊢
    rw [show itS false zs (ad i.1 4) i.2.2 = zs from rfl, show itC false zs (ad i.1 4) = 0 from rfl, Int.add_zero]
    clear hi hb
    go_enter Tryz.func89, Tryz.ntmps89
    go_wp2_with fail
    with_reducible refine C1.mono ?_
    clear C1
    rintro e w1 ⟨rfl, h1⟩
    have h2 := h1.fresh (show Below w1.heap.size w1 (w1.alloc (.cells #[.int .i64 i.1, .int .i64 i.2.1, .int .i64 i.2.2] 68)) from (Below.refl _ _).alloc (Nat.le_refl _) _)
    clear h1
    have c1 := h2.box.c1
    have cf := h2.box.f
    have H9 := Lib.hid (h2.s1 38)
    clear h2
    go_wp2
    first | go_end0 | refine bodyPost_ret (results_none rfl _ _ _) rfl ?_
    exact ⟨rfl, H9.out⟩

set_option maxRecDepth 100000 in
set_option maxHeartbeats 1600000 in
theorem ageP (h : CM w0 M B p N v0 size t b o pa dn l zs st w) (hl : l.length ≤ 1000) (k0 : 0 ≤ st) (k1 : st < 1000000) : Calls Tryz.prog 90 #[.pointer (some ⟨N, 0, none⟩)] w fun e w' => e = .returned (.tuple #[]) ∧ CM w0 M B p N v0 size { t with pc := 39 } b o pa dn l (itS (itB l t.nt) zs (ad (itG l t.nt).1 2) t.ps) (st + itC (itB l t.nt) zs (ad (itG l t.nt).1 2)) w' := by
  have C1 := itemT h hl
  clear h
  by_cases hb : itB l t.nt = true
  · skip
    obtain ⟨i, hi⟩ : ∃ i, itG l t.nt = i := ⟨_, rfl⟩
    rw [hb, hi] at C1 ⊢
    rw [show itS true zs (ad i.1 2) t.ps = sto zs (ad i.1 2) t.ps from rfl, show itC true zs (ad i.1 2) = cn zs (ad i.1 2) from rfl]
    clear hi hb
    go_enter Tryz.func90, Tryz.ntmps90
    go_wp2_with fail
    with_reducible refine C1.mono ?_
    clear C1
    rintro e w1 ⟨rfl, h1⟩
    have h2 := h1.fresh (show Below w1.heap.size w1 (w1.alloc (.cells #[.int .i64 i.1, .int .i64 i.2.1, .int .i64 i.2.2] 68)) from (Below.refl _ _).alloc (Nat.le_refl _) _)
    clear h1
    go_wp2
    have I0 := IB.new w1 i
    generalize w1.alloc (.cells #[.int .i64 i.1, .int .i64 i.2.1, .int .i64 i.2.2] 68) = W at *
    have hd := h2.drew
    have i0 : (fun w' : World => w'.cell? ⟨w1.heap.size, 0, none⟩ = some (.int .i64 i.1) ∧ w'.cell? ⟨N, 10, none⟩ = some (.int .i64 t.ps)) W.drew := ⟨I0.c0, hd.box.c10⟩
    have C2 := storeTK hd (IntKind.i64.wrap (i.1 + 2)) t.ps k0 k1
    have HI := Lib.hid (show IB W.drew w1.heap.size i from I0)
    clear h2 hd I0
    go_region_held3 (fun w' : World => w'.cell? ⟨w1.heap.size, 0, none⟩ = some (.int .i64 i.1) ∧ w'.cell? ⟨N, 10, none⟩ = some (.int .i64 t.ps)) (first | exact i0 | exact i1) (first
      | ((with_reducible refine C2.mono ?_); rintro e w3 ⟨rfl, h9, k9⟩; rw [IntWalk.i64_left] at h9; have i1 : (fun w' : World => w'.cell? ⟨w1.heap.size, 0, none⟩ = some (.int .i64 i.1) ∧ w'.cell? ⟨N, 10, none⟩ = some (.int .i64 t.ps)) w3 := ⟨(show IB w3 w1.heap.size i from k9 _ _ _ HI.out (by decide) (by decide)).c0, h9.box.c10⟩; clear C2 k9 HI))
    all_goals (have c1 := h9.box.c1; have cf := h9.box.f; have H9 := Lib.hid (h9.s1 39); clear h9; go_wp2; first | go_end0 | refine bodyPost_ret (results_none rfl _ _ _) rfl ?_)
    all_goals exact ⟨rfl, H9.out⟩
  · have hb : itB l t.nt = false := by simpa using hb
    obtain ⟨i, hi⟩ : ∃ i, itG l t.nt = i := ⟨_, rfl⟩
    rw [hb, hi] at C1 ⊢
    rw [show itS false zs (ad i.1 2) t.ps = zs from rfl, show itC false zs (ad i.1 2) = 0 from rfl, Int.add_zero]
    clear hi hb
    go_enter Tryz.func90, Tryz.ntmps90
    go_wp2_with fail
    with_reducible refine C1.mono ?_
    clear C1
    rintro e w1 ⟨rfl, h1⟩
    have h2 := h1.fresh (show Below w1.heap.size w1 (w1.alloc (.cells #[.int .i64 i.1, .int .i64 i.2.1, .int .i64 i.2.2] 68)) from (Below.refl _ _).alloc (Nat.le_refl _) _)
    clear h1
    have c1 := h2.box.c1
    have cf := h2.box.f
    have H9 := Lib.hid (h2.s1 39)
    clear h2
    go_wp2
    first | go_end0 | refine bodyPost_ret (results_none rfl _ _ _) rfl ?_
    exact ⟨rfl, H9.out⟩

set_option maxRecDepth 100000 in
set_option maxHeartbeats 1600000 in
theorem freeP (h : CM w0 M B p N v0 size t b o pa dn l zs st w) (hl : l.length ≤ 1000) (k0 : 0 ≤ st) (k1 : st < 1000000) : Calls Tryz.prog 91 #[.pointer (some ⟨N, 0, none⟩)] w fun e w' => e = .returned (.tuple #[]) ∧ CM w0 M B p N v0 size (frT pa t l) b o pa dn l (itS (itB l t.nt) zs (ad (itG l t.nt).1 0) 0) (st + itC (itB l t.nt) zs (ad (itG l t.nt).1 0)) w' := by
  have C1 := itemT h hl
  clear h
  rcases (show (itB l t.nt = true ∧ itB l (wrap64 (t.nt + 1)) = true) ∨ (itB l t.nt = true ∧ itB l (wrap64 (t.nt + 1)) = false) ∨ itB l t.nt = false by cases itB l t.nt <;> cases itB l (wrap64 (t.nt + 1)) <;> simp) with ⟨hb, hm⟩ | ⟨hb, hm⟩ | hb
  · obtain ⟨i, hi⟩ : ∃ i, itG l t.nt = i := ⟨_, rfl⟩
    rw [hi] at C1 ⊢
    rw [hb] at C1 ⊢
    rw [show itS true zs (ad i.1 0) 0 = sto zs (ad i.1 0) 0 from rfl, show itC true zs (ad i.1 0) = cn zs (ad i.1 0) from rfl]
    rw [show frT pa t l = { t with nt := ad t.nt 1, pc := 37 } by unfold frT; rw [hb, show itB l (ad t.nt 1) = true from hm]; rfl]
    rw [show ad i.1 0 = wrap64 i.1 by unfold ad; rw [Int.add_zero]]
    clear hi hb
    go_enter Tryz.func91, Tryz.ntmps91
    go_wp2_with fail
    with_reducible refine C1.mono ?_
    clear C1
    rintro e w1 ⟨rfl, h1⟩
    have h2 := h1.fresh (show Below w1.heap.size w1 (w1.alloc (.cells #[.int .i64 i.1, .int .i64 i.2.1, .int .i64 i.2.2] 68)) from (Below.refl _ _).alloc (Nat.le_refl _) _)
    clear h1
    have C2 := storeT h2 (wrap64 i.1) 0 k0 k1
    clear h2
    go_wp2_with fail
    with_reducible refine C2.mono ?_
    clear C2
    rintro e w3 ⟨rfl, h3⟩
    have c8 := h3.box.c8
    have cf := h3.box.f
    have h4 := h3.s8 (wrap64 (t.nt + 1))
    have C3 := Lib.hid (itemT h4 hl)
    clear h3 h4
    go_wp2_with fail
    with_reducible refine C3.out.mono ?_
    clear C3
    rintro e w5 ⟨rfl, h5'⟩
    rw [show itB l ({ t with nt := wrap64 (t.nt + 1) } : Th).nt = true from hm]
    clear hm
    generalize itG l ({ t with nt := wrap64 (t.nt + 1) } : Th).nt = i2 at *
    have h5 := h5'.fresh (show Below w5.heap.size w5 (w5.alloc (.cells #[.int .i64 i2.1, .int .i64 i2.2.1, .int .i64 i2.2.2] 68)) from (Below.refl _ _).alloc (Nat.le_refl _) _)
    clear h5'
    have c1 := h5.box.c1
    have cf := h5.box.f
    have H9 := Lib.hid (h5.s1 37)
    clear h5
    go_wp2
    first | go_end0 | refine bodyPost_ret (results_none rfl _ _ _) rfl ?_
    exact ⟨rfl, H9.out⟩
  · obtain ⟨i, hi⟩ : ∃ i, itG l t.nt = i := ⟨_, rfl⟩
    rw [hi] at C1 ⊢
    rw [hb] at C1 ⊢
    rw [show itS true zs (ad i.1 0) 0 = sto zs (ad i.1 0) 0 from rfl, show itC true zs (ad i.1 0) = cn zs (ad i.1 0) from rfl]
    rw [show frT pa t l = { t with nt := ad t.nt 1, pc := fk (decide (t.rn < pa)) 20 40 } by unfold frT; rw [hb, show itB l (ad t.nt 1) = false from hm]; rfl]
    rw [show ad i.1 0 = wrap64 i.1 by unfold ad; rw [Int.add_zero]]
    clear hi hb
    go_enter Tryz.func91, Tryz.ntmps91
    go_wp2_with fail
    with_reducible refine C1.mono ?_
    clear C1
    rintro e w1 ⟨rfl, h1⟩
    have h2 := h1.fresh (show Below w1.heap.size w1 (w1.alloc (.cells #[.int .i64 i.1, .int .i64 i.2.1, .int .i64 i.2.2] 68)) from (Below.refl _ _).alloc (Nat.le_refl _) _)
    clear h1
    have C2 := storeT h2 (wrap64 i.1) 0 k0 k1
    clear h2
    go_wp2_with fail
    with_reducible refine C2.mono ?_
    clear C2
    rintro e w3 ⟨rfl, h3⟩
    have c8 := h3.box.c8
    have cf := h3.box.f
    have h4 := h3.s8 (wrap64 (t.nt + 1))
    have C3 := Lib.hid (itemT h4 hl)
    clear h3 h4
    go_wp2_with fail
    with_reducible refine C3.out.mono ?_
    clear C3
    rintro e w5 ⟨rfl, h5'⟩
    rw [show itB l ({ t with nt := wrap64 (t.nt + 1) } : Th).nt = false from hm]
    clear hm
    generalize itG l ({ t with nt := wrap64 (t.nt + 1) } : Th).nt = i2 at *
    have h5 := h5'.fresh (show Below w5.heap.size w5 (w5.alloc (.cells #[.int .i64 i2.1, .int .i64 i2.2.1, .int .i64 i2.2.2] 68)) from (Below.refl _ _).alloc (Nat.le_refl _) _)
    clear h5'
    have hd := h5.drew
    have i0 : (fun w' : World => w'.cell? ⟨N, 11, none⟩ = some (.int .i64 (t.rn)) ∧ w'.cell? ⟨N, 15, none⟩ = some (.int .i64 (pa))) _ := ⟨hd.box.c11, hd.box.c15⟩
    have C4 := forkT hd (decide (t.rn < pa)) 20 40
    clear h5 hd
    go_wp2
    go_region_held3 (fun w' : World => w'.cell? ⟨N, 11, none⟩ = some (.int .i64 (t.rn)) ∧ w'.cell? ⟨N, 15, none⟩ = some (.int .i64 (pa))) (first | exact i0 | exact i1) (first
      | ((with_reducible refine C4.mono ?_); rintro e w6 ⟨rfl, h6⟩; have i1 : (fun w' : World => w'.cell? ⟨N, 11, none⟩ = some (.int .i64 (t.rn)) ∧ w'.cell? ⟨N, 15, none⟩ = some (.int .i64 (pa))) _ := ⟨h6.box.c11, h6.box.c15⟩; have H9 := Lib.hid h6; clear h6 C4))
    all_goals (go_wp2; first | go_end0 | refine bodyPost_ret (results_none rfl _ _ _) rfl ?_)
    all_goals exact ⟨rfl, H9.out⟩
  · obtain ⟨i, hi⟩ : ∃ i, itG l t.nt = i := ⟨_, rfl⟩
    rw [hi] at C1 ⊢
    rw [hb] at C1 ⊢
    rw [show itS false zs (ad i.1 0) 0 = zs from rfl, show itC false zs (ad i.1 0) = 0 from rfl, Int.add_zero]
    rw [show frT pa t l = { t with nt := ad t.nt 1, pc := fk (decide (t.rn < pa)) 20 40 } by unfold frT; rw [hb]; rfl]
    clear hi hb
    go_enter Tryz.func91, Tryz.ntmps91
    go_wp2_with fail
    with_reducible refine C1.mono ?_
    clear C1
    rintro e w1 ⟨rfl, h1⟩
    have h2 := h1.fresh (show Below w1.heap.size w1 (w1.alloc (.cells #[.int .i64 i.1, .int .i64 i.2.1, .int .i64 i.2.2] 68)) from (Below.refl _ _).alloc (Nat.le_refl _) _)
    clear h1
    have c8 := h2.box.c8
    have cf := h2.box.f
    have h4 := h2.s8 (wrap64 (t.nt + 1))
    have C3 := Lib.hid (itemT h4 hl)
    clear h2 h4
    go_wp2_with fail
    with_reducible refine C3.out.mono ?_
    clear C3
    rintro e w5 ⟨rfl, h5'⟩
    generalize itB l ({ t with nt := wrap64 (t.nt + 1) } : Th).nt = m at *
    generalize itG l ({ t with nt := wrap64 (t.nt + 1) } : Th).nt = i2 at *
    have h5 := h5'.fresh (show Below w5.heap.size w5 (w5.alloc (.cells #[.int .i64 i2.1, .int .i64 i2.2.1, .int .i64 i2.2.2] 68)) from (Below.refl _ _).alloc (Nat.le_refl _) _)
    clear h5'
    have hd := h5.drew
    have i0 : (fun w' : World => w'.cell? ⟨N, 11, none⟩ = some (.int .i64 (t.rn)) ∧ w'.cell? ⟨N, 15, none⟩ = some (.int .i64 (pa))) _ := ⟨hd.box.c11, hd.box.c15⟩
    have C4 := forkT hd (decide (t.rn < pa)) 20 40
    clear h5 hd
    go_wp2
    go_region_held3 (fun w' : World => w'.cell? ⟨N, 11, none⟩ = some (.int .i64 (t.rn)) ∧ w'.cell? ⟨N, 15, none⟩ = some (.int .i64 (pa))) (first | exact i0 | exact i1) (first
      | ((with_reducible refine C4.mono ?_); rintro e w6 ⟨rfl, h6⟩; have i1 : (fun w' : World => w'.cell? ⟨N, 11, none⟩ = some (.int .i64 (t.rn)) ∧ w'.cell? ⟨N, 15, none⟩ = some (.int .i64 (pa))) _ := ⟨h6.box.c11, h6.box.c15⟩; have H9 := Lib.hid h6; clear h6 C4))
    all_goals (go_wp2; first | go_end0 | refine bodyPost_ret (results_none rfl _ _ _) rfl ?_)
    all_goals exact ⟨rfl, H9.out⟩
end

end Go.Proofs.YtikaoikladbdpaaGreat.M2
