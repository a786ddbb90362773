/-
  The small calls of a turn (package owner): mine, load, store, swap, fork, and what puts an error away. Conditions: a turn beside its memory, as TM says; steps below a million. What is done at each of the sixteen places (package owner): the thread behind it, the cells, the steps, what is told. Conditions: a turn beside its memory, as TM says; steps below a million. What is done at the places alloc, link, take and read of a turn (package owner). Conditions: a turn beside its memory, as TM says; steps below a million.
-/
import Derived.Test.YthefdglocnalhaaOwnG15
import Derived.Test.YthefdglocnalhaaMWor13
import Derived.Deep.RegionHeld3
import Derived.Deep.Cut
namespace Go.Proofs.Ythefdglocnalhaa.M2
open Go.RowKit

set_option maxRecDepth 100000 in
theorem knownI (zs : List Int) (a : Int) (w : World) : Calls Try.prog 87 #[.int .i64 (ld zs a), .int .u16 (ce zs a)] w fun e w' => e = .returned (.int .i64 (ld zs a)) ∧ w = w' := by
  rcases ce_or zs a with h | ⟨h, h2⟩
  · rw [h]
    go_enter Try.func87, Try.ntmps87
    go_wp2
    go_ret
    exact ⟨rfl, rfl⟩
  · rw [h, h2]
    go_enter Try.func87, Try.ntmps87
    go_wp2
    go_ret
    exact ⟨rfl, rfl⟩

set_option maxRecDepth 100000 in
theorem knownB (zs : List Int) (a o : Int) (w : World) : Calls Try.prog 85 #[.bool (swb zs a o), .int .u16 (ce zs a)] w fun e w' => e = .returned (.bool (swb zs a o)) ∧ w = w' := by
  rcases ce_sw zs a o with h | ⟨h, h2⟩
  · rw [h]
    go_enter Try.func85, Try.ntmps85
    go_wp2
    go_ret
    exact ⟨rfl, rfl⟩
  · rw [h, h2]
    go_enter Try.func85, Try.ntmps85
    go_wp2
    go_ret
    exact ⟨rfl, rfl⟩

section
variable {w0 w : World} {B p N : Nat} {v0 : Value} {size : Int} {t : Th} {b : Value} {k v : Int} {d : Bool} {zs : List Int} {st : Int}

set_option maxRecDepth 100000 in
theorem mineT (h : TM w0 B p N v0 size t b k v d zs st w) (c : Int) : Calls Try.prog 81 #[.pointer (some ⟨N, 0, none⟩), .int .i64 c] w fun e w' => e = .returned (.int .i64 (ad t.rc c)) ∧ w = w' := by
  have c2 := h.box.c2
  clear h
  go_enter Try.func81, Try.ntmps81
  go_wp2
  go_ret
  exact ⟨rfl, rfl⟩

set_option maxRecDepth 100000 in
theorem loadT (h : TM w0 B p N v0 size t b k v d zs st w) (a : Int) (k0 : 0 ≤ st) (k1 : st < 1000000) :
    Calls Try.prog 82 #[.pointer (some ⟨N, 0, none⟩), .int .i64 a] w fun e w' => e = .returned (.int .i64 (ld zs a)) ∧ TM w0 B p N v0 size { t with lk := ld zs a } b k v d zs (st + cn zs a) w' := by
  have C := h.load a k0 k1
  have c13 := h.box.c13
  have K := fun w => knownI zs a w
  clear h
  go_enter Try.func82, Try.ntmps82
  go_wp2_with fail
  refine C.mono ?_
  clear C c13
  rintro e w1 ⟨rfl, h1⟩
  have H1 := Lib.hid h1
  clear h1
  go_wp2_with fail
  refine (K w1).mono ?_
  clear K
  rintro e w' ⟨rfl, rfl⟩
  have c5 := H1.out.box.c5
  have cf := H1.out.box.f
  have H2 := Lib.hid (H1.out.s5 (ld zs a))
  have e5 := H2.out.box.c5
  go_wp2
  go_ret
  exact ⟨rfl, H2.out⟩

set_option maxRecDepth 100000 in
theorem storeT (h : TM w0 B p N v0 size t b k v d zs st w) (a x g : Int) (k0 : 0 ≤ st) (k1 : st < 1000000) :
    Calls Try.prog 83 #[.pointer (some ⟨N, 0, none⟩), .int .i64 a, .int .i64 x, .int .i64 g] w fun e w' => e = .returned (.tuple #[]) ∧ TM w0 B p N v0 size { t with pc := g } b k v d (sto zs a x) (st + cn zs a) w' := by
  have C := h.store a x k0 k1
  have c13 := h.box.c13
  clear h
  go_enter Try.func83, Try.ntmps83
  go_wp2_with fail
  refine C.mono ?_
  clear C c13
  rintro e w1 ⟨rfl, h1⟩
  have H1 := Lib.hid h1
  clear h1
  have c1 := H1.out.box.c1
  have cf := H1.out.box.f
  have H2 := Lib.hid (H1.out.s1 g)
  go_wp2
  go_end0
  exact ⟨rfl, H2.out⟩

set_option maxRecDepth 100000 in
theorem swapT (h : TM w0 B p N v0 size t b k v d zs st w) (a o x : Int) (k0 : 0 ≤ st) (k1 : st < 1000000) :
    Calls Try.prog 80 #[.pointer (some ⟨N, 0, none⟩), .int .i64 a, .int .i64 o, .int .i64 x] w fun e w' => e = .returned (.bool (swb zs a o)) ∧ TM w0 B p N v0 size t b k v d (swp zs a o x) (st + cn zs a) w' := by
  have C := h.swap a o x k0 k1
  have c13 := h.box.c13
  have K := fun w => knownB zs a o w
  clear h
  go_enter Try.func80, Try.ntmps80
  go_wp2_with fail
  refine C.mono ?_
  clear C c13
  rintro e w1 ⟨rfl, h1⟩
  have H1 := Lib.hid h1
  clear h1
  go_wp2_with fail
  refine (K w1).mono ?_
  clear K
  rintro e w' ⟨rfl, rfl⟩
  go_wp2
  go_ret
  exact ⟨rfl, H1.out⟩

set_option maxRecDepth 100000 in
theorem forkT (h : TM w0 B p N v0 size t b k v d zs st w) (is : Bool) (x y : Int) :
    Calls Try.prog 79 #[.pointer (some ⟨N, 0, none⟩), .bool is, .int .i64 x, .int .i64 y] w fun e w' => e = .returned (.tuple #[]) ∧ TM w0 B p N v0 size { t with pc := fk is x y } b k v d zs st w' := by
  have c1 := h.box.c1
  have cf := h.box.f
  have H1 := Lib.hid (h.s1 y)
  have d1 := H1.out.box.c1
  have df := H1.out.box.f
  have H2 := Lib.hid (H1.out.s1 x)
  clear h
  cases is
  · go_enter Try.func79, Try.ntmps79
    go_wp2
    go_end0
    exact ⟨rfl, H1.out⟩
  · go_enter Try.func79, Try.ntmps79
    go_wp2
    go_end0
    exact ⟨rfl, H2.out⟩
end

theorem ofResA (n : Int) (w : World) : Calls Try.prog 84 #[.int .i64 n] w fun e w' => e = .returned (.tuple #[.agg #[.int .u8 (rK n), .int .i32 (rV n)], .bool (okW n)]) ∧ Fresh w w' := by
  by_cases h : 1 ≤ n ∧ n ≤ 1099511627776
  · have e : okW n = true := decide_eq_true h
    rw [show rK n = kd n from if_pos e, show rV n = vl n from if_pos e, e]
    exact ofRes n h.1 h.2 w
  · have e : okW n = false := decide_eq_false h
    rw [show rK n = 0 from if_neg (by rw [e]; decide), show rV n = 0 from if_neg (by rw [e]; decide), e]
    exact ofResNo n (by omega) w

theorem refOfResA (n : Int) (w : World) : Calls Try.prog 51 #[.int .i64 n] w fun e w' => e = .returned (.tuple #[.agg #[.int .u8 (rK n), .int .i32 (rV n)], .bool (okW n)]) ∧ Fresh w w' := by
  by_cases h : 1 ≤ n ∧ n ≤ 1099511627776
  · have e : okW n = true := decide_eq_true h
    rw [show rK n = kd n from if_pos e, show rV n = vl n from if_pos e, e]
    exact refOfRes n h.1 h.2 w
  · have e : okW n = false := decide_eq_false h
    rw [show rK n = 0 from if_neg (by rw [e]; decide), show rV n = 0 from if_neg (by rw [e]; decide), e]
    exact refOfResNo n (by omega) w

end Go.Proofs.Ythefdglocnalhaa.M2
namespace Go.Proofs.Ythefdglocnalhaa.M2
open Go.RowKit

section
variable {w0 w : World} {B p N : Nat} {v0 : Value} {size : Int} {t : Th} {b : Value} {k v : Int} {d : Bool} {zs : List Int} {st : Int}

set_option maxRecDepth 100000 in
set_option maxHeartbeats 1600000 in
theorem closedP (h : TM w0 B p N v0 size t b k v d zs st w) (k0 : 0 ≤ st) (k1 : st < 1000000) : Calls Try.prog 63 #[.pointer (some ⟨N, 0, none⟩)] w fun e w' => e = .returned (.tuple #[]) ∧ TM w0 B p N v0 size { t with lk := ld zs (ad t.rc 1), pc := fk (ld zs (ad t.rc 1) == 0) 4 3 } b k v d zs (st + cn zs (ad t.rc 1)) w' := by
  have C1 := mineT h 1
  have C2 := loadT h (ad t.rc 1) k0 k1
  clear h
  go_enter Try.func63, Try.ntmps63
  go_wp2_with fail
  refine C1.mono ?_
  clear C1
  rintro e w' ⟨rfl, rfl⟩
  go_wp2_with fail
  refine C2.mono ?_
  clear C2
  rintro e w2 ⟨rfl, h2⟩
  have C3 := fun is => forkT h2 is 4 3
  clear h2
  go_wp2_with fail
  refine (C3 _).mono ?_
  clear C3
  rintro e w3 ⟨rfl, h3⟩
  have H3 := Lib.hid h3
  clear h3
  go_wp2
  go_end0
  exact ⟨rfl, H3.out⟩

set_option maxRecDepth 100000 in
set_option maxHeartbeats 1600000 in
theorem checkP (h : TM w0 B p N v0 size t b k v d zs st w) (k0 : 0 ≤ st) (k1 : st < 1000000) : Calls Try.prog 65 #[.pointer (some ⟨N, 0, none⟩)] w fun e w' => e = .returned (.tuple #[]) ∧ TM w0 B p N v0 size { t with lk := ld zs (ad t.rc 1), pc := fk (ld zs (ad t.rc 1) == 0) 6 11 } b k v d zs (st + cn zs (ad t.rc 1)) w' := by
  have C1 := mineT h 1
  have C2 := loadT h (ad t.rc 1) k0 k1
  clear h
  go_enter Try.func65, Try.ntmps65
  go_wp2_with fail
  refine C1.mono ?_
  clear C1
  rintro e w' ⟨rfl, rfl⟩
  go_wp2_with fail
  refine C2.mono ?_
  clear C2
  rintro e w2 ⟨rfl, h2⟩
  have C3 := fun is => forkT h2 is 6 11
  clear h2
  go_wp2_with fail
  refine (C3 _).mono ?_
  clear C3
  rintro e w3 ⟨rfl, h3⟩
  have H3 := Lib.hid h3
  clear h3
  go_wp2
  go_end0
  exact ⟨rfl, H3.out⟩

set_option maxRecDepth 100000 in
set_option maxHeartbeats 1600000 in
theorem lockP (h : TM w0 B p N v0 size t b k v d zs st w) (k0 : 0 ≤ st) (k1 : st < 1000000) : Calls Try.prog 72 #[.pointer (some ⟨N, 0, none⟩)] w fun e w' => e = .returned (.tuple #[]) ∧ TM w0 B p N v0 size { t with lk := ld zs 0, pc := fk (ld zs 0 == 0) 13 11 } b k v d zs (st + cn zs 0) w' := by
  have C2 := loadT h 0 k0 k1
  clear h
  go_enter Try.func72, Try.ntmps72
  go_wp2_with fail
  refine C2.mono ?_
  clear C2
  rintro e w2 ⟨rfl, h2⟩
  have C3 := fun is => forkT h2 is 13 11
  clear h2
  go_wp2_with fail
  refine (C3 _).mono ?_
  clear C3
  rintro e w3 ⟨rfl, h3⟩
  have H3 := Lib.hid h3
  clear h3
  go_wp2
  go_end0
  exact ⟨rfl, H3.out⟩

set_option maxRecDepth 100000 in
set_option maxHeartbeats 1600000 in
theorem claimP (h : TM w0 B p N v0 size t b k v d zs st w) (k0 : 0 ≤ st) (k1 : st < 1000000) : Calls Try.prog 66 #[.pointer (some ⟨N, 0, none⟩)] w fun e w' => e = .returned (.tuple #[]) ∧ TM w0 B p N v0 size { t with pc := fk (swb zs (ad t.rc 1) 0) 15 11 } b k v d (swp zs (ad t.rc 1) 0 2) (st + cn zs (ad t.rc 1)) w' := by
  have C1 := mineT h 1
  have C2 := swapT h (ad t.rc 1) 0 2 k0 k1
  clear h
  go_enter Try.func66, Try.ntmps66
  go_wp2_with fail
  refine C1.mono ?_
  clear C1
  rintro e w' ⟨rfl, rfl⟩
  go_wp2_with fail
  refine C2.mono ?_
  clear C2
  rintro e w2 ⟨rfl, h2⟩
  have C3 := forkT h2 (swb zs (ad t.rc 1) 0) 15 11
  clear h2
  go_wp2_with fail
  refine C3.mono ?_
  clear C3
  rintro e w3 ⟨rfl, h3⟩
  have H3 := Lib.hid h3
  clear h3
  go_wp2
  go_end0
  exact ⟨rfl, H3.out⟩

set_option maxRecDepth 100000 in
set_option maxHeartbeats 1600000 in
theorem dropP (h : TM w0 B p N v0 size t b k v d zs st w) (k0 : 0 ≤ st) (k1 : st < 1000000) : Calls Try.prog 76 #[.pointer (some ⟨N, 0, none⟩)] w fun e w' => e = .returned (.tuple #[]) ∧ TM w0 B p N v0 size { t with pc := 11 } b k v d (sto zs (ad t.rc 1) 0) (st + cn zs (ad t.rc 1)) w' := by
  have C1 := mineT h 1
  have C2 := storeT h (ad t.rc 1) 0 11 k0 k1
  clear h
  go_enter Try.func76, Try.ntmps76
  go_wp2_with fail
  refine C1.mono ?_
  clear C1
  rintro e w' ⟨rfl, rfl⟩
  go_wp2_with fail
  refine C2.mono ?_
  clear C2
  rintro e w2 ⟨rfl, h2⟩
  have H3 := Lib.hid h2
  clear h2
  go_wp2
  go_end0
  exact ⟨rfl, H3.out⟩

set_option maxRecDepth 100000 in
set_option maxHeartbeats 1600000 in
theorem frontP (h : TM w0 B p N v0 size t b k v d zs st w) (k0 : 0 ≤ st) (k1 : st < 1000000) : Calls Try.prog 67 #[.pointer (some ⟨N, 0, none⟩)] w fun e w' => e = .returned (.tuple #[]) ∧ TM w0 B p N v0 size { t with lk := ld zs 1, pc := 8 } b k v d zs (st + cn zs 1) w' := by
  have C2 := loadT h 1 k0 k1
  clear h
  go_enter Try.func67, Try.ntmps67
  go_wp2_with fail
  refine C2.mono ?_
  clear C2
  rintro e w2 ⟨rfl, h2⟩
  have c1 := h2.box.c1
  have cf := h2.box.f
  have H3 := Lib.hid (h2.s1 8)
  clear h2
  go_wp2
  go_end0
  exact ⟨rfl, H3.out⟩

set_option maxRecDepth 100000 in
set_option maxHeartbeats 1600000 in
theorem publishP (h : TM w0 B p N v0 size t b k v d zs st w) (hr : ad t.rc 0 = t.rc) (k0 : 0 ≤ st) (k1 : st < 1000000) : Calls Try.prog 62 #[.pointer (some ⟨N, 0, none⟩)] w fun e w' => e = .returned (.tuple #[]) ∧ TM w0 B p N v0 size { t with pc := fk (swb zs t.rc 0) 5 3 } b k v d (swp zs t.rc 0 t.wo) (st + cn zs t.rc) w' := by
  have hd := h.drew
  have c4 : w.drew.cell? ⟨N, 4, none⟩ = some (.int .i64 t.wo) := hd.box.c4
  have C1 := mineT hd 0
  have C2 := swapT hd (ad t.rc 0) 0 t.wo k0 k1
  clear h hd
  rw [hr] at C1 C2
  go_enter Try.func62, Try.ntmps62
  go_wp2
  go_region_held3 (fun w' => w'.cell? ⟨N, 4, none⟩ = some (.int .i64 t.wo)) (first | with_reducible exact c4 | with_reducible exact c5 | with_reducible exact c6) (first
    | ((with_reducible refine C1.mono ?_); rintro e w1 ⟨rfl, rfl⟩)
    | ((with_reducible refine C2.mono ?_); rintro e w2 ⟨rfl, h2⟩; have c5 := h2.box.c4; have C3 := fun is => forkT h2 is 5 3; clear h2)
    | ((with_reducible refine (C3 _).mono ?_); rintro e w3 ⟨rfl, h3⟩; have H3 := Lib.hid h3; have c6 := h3.box.c4; clear h3))
  all_goals (go_wp2; go_end0; exact ⟨rfl, H3.out⟩)

set_option maxRecDepth 100000 in
set_option maxHeartbeats 1600000 in
theorem openP (h : TM w0 B p N v0 size t b k v d zs st w) (hr : ad t.rc 0 = t.rc) (k0 : 0 ≤ st) (k1 : st < 1000000) : Calls Try.prog 64 #[.pointer (some ⟨N, 0, none⟩)] w fun e w' => e = .returned (.tuple #[]) ∧ TM w0 B p N v0 size { t with pc := 5 } b k v d (sto zs t.rc t.wo) (st + cn zs t.rc) w' := by
  have hd := h.drew
  have c4 : w.drew.cell? ⟨N, 4, none⟩ = some (.int .i64 t.wo) := hd.box.c4
  have C1 := mineT hd 0
  have C2 := storeT hd (ad t.rc 0) t.wo 5 k0 k1
  clear h hd
  rw [hr] at C1 C2
  go_enter Try.func64, Try.ntmps64
  go_wp2
  go_region_held3 (fun w' => w'.cell? ⟨N, 4, none⟩ = some (.int .i64 t.wo)) (first | with_reducible exact c4 | with_reducible exact c5 | with_reducible exact c6) (first
    | ((with_reducible refine C1.mono ?_); rintro e w1 ⟨rfl, rfl⟩)
    | ((with_reducible refine C2.mono ?_); rintro e w2 ⟨rfl, h2⟩; have H3 := Lib.hid h2; have c5 := h2.box.c4; clear h2))
  all_goals (go_wp2; go_end0; exact ⟨rfl, H3.out⟩)

set_option maxRecDepth 100000 in
set_option maxHeartbeats 1600000 in
theorem nextP (h : TM w0 B p N v0 size t b k v d zs st w) (k0 : 0 ≤ st) (k1 : st < 1000000) : Calls Try.prog 68 #[.pointer (some ⟨N, 0, none⟩)] w fun e w' => e = .returned (.tuple #[]) ∧ TM w0 B p N v0 size { t with pc := 9 } b k v d (sto zs (ad t.rc 3) t.lk) (st + cn zs (ad t.rc 3)) w' := by
  have hd := h.drew
  have c4 : w.drew.cell? ⟨N, 5, none⟩ = some (.int .i64 t.lk) := hd.box.c5
  have C1 := mineT hd 3
  have C2 := storeT hd (ad t.rc 3) t.lk 9 k0 k1
  clear h hd
  go_enter Try.func68, Try.ntmps68
  go_wp2
  go_region_held3 (fun w' => w'.cell? ⟨N, 5, none⟩ = some (.int .i64 t.lk)) (first | with_reducible exact c4 | with_reducible exact c5 | with_reducible exact c6) (first
    | ((with_reducible refine C1.mono ?_); rintro e w1 ⟨rfl, rfl⟩)
    | ((with_reducible refine C2.mono ?_); rintro e w2 ⟨rfl, h2⟩; have H3 := Lib.hid h2; have c5 := h2.box.c5; clear h2))
  all_goals (go_wp2; go_end0; exact ⟨rfl, H3.out⟩)

set_option maxRecDepth 100000 in
set_option maxHeartbeats 1600000 in
theorem markP (h : TM w0 B p N v0 size t b k v d zs st w) (k0 : 0 ≤ st) (k1 : st < 1000000) : Calls Try.prog 70 #[.pointer (some ⟨N, 0, none⟩)] w fun e w' => e = .returned (.tuple #[]) ∧ TM w0 B p N v0 size { t with pc := 11 } b k v d (sto zs (ad t.rc 1) t.lk) (st + cn zs (ad t.rc 1)) w' := by
  have hd := h.drew
  have c4 : w.drew.cell? ⟨N, 5, none⟩ = some (.int .i64 t.lk) := hd.box.c5
  have C1 := mineT hd 1
  have C2 := storeT hd (ad t.rc 1) t.lk 11 k0 k1
  clear h hd
  go_enter Try.func70, Try.ntmps70
  go_wp2
  go_region_held3 (fun w' => w'.cell? ⟨N, 5, none⟩ = some (.int .i64 t.lk)) (first | with_reducible exact c4 | with_reducible exact c5 | with_reducible exact c6) (first
    | ((with_reducible refine C1.mono ?_); rintro e w1 ⟨rfl, rfl⟩)
    | ((with_reducible refine C2.mono ?_); rintro e w2 ⟨rfl, h2⟩; have H3 := Lib.hid h2; have c5 := h2.box.c5; clear h2))
  all_goals (go_wp2; go_end0; exact ⟨rfl, H3.out⟩)

set_option maxRecDepth 100000 in
set_option maxHeartbeats 1600000 in
theorem waitP (h : TM w0 B p N v0 size t b k v d zs st w) (hr : ad t.rc 0 = t.rc) (k0 : 0 ≤ st) (k1 : st < 1000000) : Calls Try.prog 71 #[.pointer (some ⟨N, 0, none⟩)] w fun e w' => e = .returned (.tuple #[]) ∧ TM w0 B p N v0 size { t with lk := ld zs t.rc, pc := fk (ld zs t.rc == t.wo) 12 14 } b k v d zs (st + cn zs t.rc) w' := by
  have hd := h.drew
  have c4 : w.drew.cell? ⟨N, 4, none⟩ = some (.int .i64 t.wo) := hd.box.c4
  have C1 := mineT hd 0
  have C2 := loadT hd (ad t.rc 0) k0 k1
  clear h hd
  rw [hr] at C1 C2
  go_enter Try.func71, Try.ntmps71
  go_wp2
  go_region_held3 (fun w' => w'.cell? ⟨N, 4, none⟩ = some (.int .i64 t.wo)) (first | with_reducible exact c4 | with_reducible exact c5 | with_reducible exact c6) (first
    | ((with_reducible refine C1.mono ?_); rintro e w1 ⟨rfl, rfl⟩)
    | ((with_reducible refine C2.mono ?_); rintro e w2 ⟨rfl, h2⟩; have c5 := h2.box.c4; have C3 := fun is => forkT h2 is 12 14; clear h2)
    | ((with_reducible refine (C3 _).mono ?_); rintro e w3 ⟨rfl, h3⟩; have H3 := Lib.hid h3; have c6 := h3.box.c4; clear h3))
  all_goals (go_wp2; go_end0; exact ⟨rfl, H3.out⟩)

set_option maxRecDepth 100000 in
set_option maxHeartbeats 1600000 in
theorem sureP (h : TM w0 B p N v0 size t b k v d zs st w) (hr : ad t.rc 0 = t.rc) (k0 : 0 ≤ st) (k1 : st < 1000000) : Calls Try.prog 75 #[.pointer (some ⟨N, 0, none⟩)] w fun e w' => e = .returned (.tuple #[]) ∧ TM w0 B p N v0 size { t with lk := ld zs t.rc, pc := fk (ld zs t.rc == t.wo) 7 16 } b k v d zs (st + cn zs t.rc) w' := by
  have hd := h.drew
  have c4 : w.drew.cell? ⟨N, 4, none⟩ = some (.int .i64 t.wo) := hd.box.c4
  have C1 := mineT hd 0
  have C2 := loadT hd (ad t.rc 0) k0 k1
  clear h hd
  rw [hr] at C1 C2
  go_enter Try.func75, Try.ntmps75
  go_wp2
  go_region_held3 (fun w' => w'.cell? ⟨N, 4, none⟩ = some (.int .i64 t.wo)) (first | with_reducible exact c4 | with_reducible exact c5 | with_reducible exact c6) (first
    | ((with_reducible refine C1.mono ?_); rintro e w1 ⟨rfl, rfl⟩)
    | ((with_reducible refine C2.mono ?_); rintro e w2 ⟨rfl, h2⟩; have c5 := h2.box.c4; have C3 := fun is => forkT h2 is 7 16; clear h2)
    | ((with_reducible refine (C3 _).mono ?_); rintro e w3 ⟨rfl, h3⟩; have H3 := Lib.hid h3; have c6 := h3.box.c4; clear h3))
  all_goals (go_wp2; go_end0; exact ⟨rfl, H3.out⟩)
end

end Go.Proofs.Ythefdglocnalhaa.M2
namespace Go.Proofs.Ythefdglocnalhaa.M2
open Go.RowKit

section
variable {w0 w w' : World} {B p N : Nat} {v0 : Value} {size : Int} {t : Th} {b : Value} {k v : Int} {d : Bool} {zs : List Int} {st : Int}

/-- New memory alone. -/
theorem TM.fresh (h : TM w0 B p N v0 size t b k v d zs st w) (hb : Below w.heap.size w w') : TM w0 B p N v0 size t b k v d zs st w' := by
  obtain ⟨u, m, wr, l⟩ := h.did
  refine ⟨h.box.at (hb.block N h.box.lt), ⟨u, m.fresh hb, ⟨hb.os.trans wr.os, hb.tape.trans wr.tape, hb.output.trans wr.output, Nat.le_trans wr.size hb.size, fun j hj h1 h2 => ?_⟩, l⟩, h.far⟩
  exact (hb.block j (Nat.lt_of_lt_of_le hj wr.size)).trans (wr.block j hj h1 h2)

theorem Th.same1 (t : Th) (h : t.pc = 1) : ({ t with rc := t.rc, pc := 1 } : Th) = t := by
  cases t
  simp at h
  simp [h]

set_option maxRecDepth 100000 in
set_option maxHeartbeats 1600000 in
theorem allocP (h : TM w0 B p N v0 size t b k v d zs st w) (hp : t.pc = 1) (k0 : 0 ≤ st) (k1 : st < 1000000) : Calls Try.prog 61 #[.pointer (some ⟨N, 0, none⟩)] w fun e w' => e = .returned (.tuple #[]) ∧ TM w0 B p N v0 size { t with rc := fk (rm size zs) (alA size zs) t.rc, pc := fk (rm size zs) 2 1 } b k v d (alZ size zs) (st + alC size zs) w' := by
  have C := h.alloc k0 k1
  have c13 := h.box.c13
  clear h
  by_cases hr : rm size zs = true
  · rw [show alE size zs = 0 from if_pos hr] at C
    rw [hr]
    generalize alA size zs = a at *
    generalize alZ size zs = ys at *
    generalize alC size zs = c at *
    clear hr
    go_enter Try.func61, Try.ntmps61
    go_wp2_with fail
    refine C.mono ?_
    clear C c13
    rintro e w1 ⟨rfl, h1⟩
    have H1 := Lib.hid (h1.s2 a)
    have c1 := h1.box.c1
    have c2 := h1.box.c2
    have cf := h1.box.f
    have d1 := H1.out.box.c1
    have df := H1.out.box.f
    have H2 := Lib.hid (H1.out.s1 2)
    clear h1
    go_wp2
    go_end0
    exact ⟨rfl, H2.out⟩
  · rw [show alE size zs = 11 from if_neg hr] at C
    have e : rm size zs = false := by simpa using hr
    rw [e]
    have HT := Lib.hid (Th.same1 t hp)
    generalize alA size zs = a at *
    generalize alZ size zs = ys at *
    generalize alC size zs = c at *
    clear hr e hp
    go_enter Try.func61, Try.ntmps61
    go_wp2_with fail
    refine C.mono ?_
    clear C c13
    rintro e w1 ⟨rfl, h1⟩
    have H1 := Lib.hid h1
    clear h1
    go_wp2
    refine bodyPost_ret (results_none rfl _ _ _) rfl ?_
    refine ⟨rfl, ?_⟩
    have := H1.out
    rw [← HT.out] at this
    exact this

set_option maxRecDepth 100000 in
set_option maxHeartbeats 1600000 in
theorem takeP (h : TM w0 B p N v0 size t b k v d zs st w) (k0 : 0 ≤ st) (k1 : st < 1000000) : Calls Try.prog 73 #[.pointer (some ⟨N, 0, none⟩)] w fun e w' => e = .returned (.tuple #[]) ∧ TM w0 B p N v0 size { t with pc := fk (swb zs 0 0) 20 11, rn := fk (swb zs 0 0) 0 t.rn } b k v d (swp zs 0 0 (ad t.ti 1)) (st + cn zs 0) w' := by
  have C := swapT h 0 0 (ad t.ti 1) k0 k1
  have c0 := h.box.c0
  clear h
  generalize swp zs 0 0 (ad t.ti 1) = ys at *
  generalize swb zs 0 0 = is at *
  go_enter Try.func73, Try.ntmps73
  go_wp2_with fail
  refine C.mono ?_
  clear C c0
  rintro e w1 ⟨rfl, h1⟩
  have H1 := Lib.hid h1
  clear h1
  cases is
  · have C2 := forkT H1.out false 20 11
    go_wp2_with fail
    refine C2.mono ?_
    clear C2
    rintro e w2 ⟨rfl, h2⟩
    have H2 := Lib.hid h2
    clear h2
    go_wp2
    go_end0
    exact ⟨rfl, H2.out⟩
  · have C2 := forkT (H1.out.s11 0) true 20 11
    have c11 := H1.out.box.c11
    have cf := H1.out.box.f
    go_wp2_with fail
    refine C2.mono ?_
    clear C2
    rintro e w2 ⟨rfl, h2⟩
    have H2 := Lib.hid h2
    clear h2
    go_wp2
    go_end0
    exact ⟨rfl, H2.out⟩

set_option maxRecDepth 100000 in
set_option maxHeartbeats 1600000 in
theorem linkP (h : TM w0 B p N v0 size t b k v d zs st w) (k0 : 0 ≤ st) (k1 : st < 1000000) : Calls Try.prog 69 #[.pointer (some ⟨N, 0, none⟩)] w fun e w' => e = .returned (.tuple #[]) ∧ TM w0 B p N v0 size { t with lk := fk (swb zs 1 t.lk) 1 0, pc := 10 } b k v d (swp zs 1 t.lk t.rc) (st + cn zs 1) w' := by
  have hd := h.drew
  have x5 : w.drew.cell? ⟨N, 5, none⟩ = some (.int .i64 t.lk) := hd.box.c5
  have x2 : w.drew.cell? ⟨N, 2, none⟩ = some (.int .i64 t.rc) := hd.box.c2
  have C2 := swapT hd 1 t.lk t.rc k0 k1
  clear h hd
  generalize swp zs 1 t.lk t.rc = ys at *
  generalize swb zs 1 t.lk = is at *
  go_enter Try.func69, Try.ntmps69
  go_wp2
  go_region_held3 (fun w' => w'.cell? ⟨N, 5, none⟩ = some (.int .i64 t.lk) ∧ w'.cell? ⟨N, 2, none⟩ = some (.int .i64 t.rc)) (first | with_reducible exact ⟨x5, x2⟩ | with_reducible exact ⟨y5, y2⟩) (first
    | ((with_reducible refine C2.mono ?_); rintro e w1 ⟨rfl, h1⟩; have H1 := Lib.hid h1; have y5 := h1.box.c5; have y2 := h1.box.c2; clear h1))
  clear x5 x2 y5 y2 C2
  have c5 := H1.out.box.c5
  have cf := H1.out.box.f
  have H2 := Lib.hid (H1.out.s5 0)
  have d5 := H2.out.box.c5
  have d1 := H2.out.box.c1
  have df := H2.out.box.f
  have H3 := Lib.hid (H2.out.s5 1)
  have e1 := H3.out.box.c1
  have ef := H3.out.box.f
  have H4 := Lib.hid (H2.out.s1 10)
  have H5 := Lib.hid (H3.out.s1 10)
  cases is
  · go_wp2
    go_end0
    exact ⟨rfl, H4.out⟩
  · go_wp2
    go_end0
    exact ⟨rfl, H5.out⟩

set_option maxRecDepth 100000 in
set_option maxHeartbeats 1600000 in
theorem readP (h : TM w0 B p N v0 size t b k v d zs st w) (k0 : 0 ≤ st) (k1 : st < 1000000) : Calls Try.prog 74 #[.pointer (some ⟨N, 0, none⟩)] w fun e w' => e = .returned (.tuple #[]) ∧ TM w0 B p N v0 size { t with lk := ld zs (ad t.rc 4), wo := 0, pc := 0 } b (rK (ld zs (ad t.rc 4))) (rV (ld zs (ad t.rc 4))) true zs (st + cn zs (ad t.rc 4)) w' := by
  have C1 := mineT h 4
  have C2 := loadT h (ad t.rc 4) k0 k1
  clear h
  generalize ld zs (ad t.rc 4) = z at *
  generalize cn zs (ad t.rc 4) = c at *
  go_enter Try.func74, Try.ntmps74
  go_wp2_with fail
  refine C1.mono ?_
  clear C1
  rintro e w' ⟨rfl, rfl⟩
  go_wp2_with fail
  refine C2.mono ?_
  clear C2
  rintro e w2 ⟨rfl, h2⟩
  have C3 := ofResA z w2
  have H2 := Lib.hid h2
  clear h2
  go_wp2_with fail
  refine C3.mono ?_
  clear C3
  rintro e w3 ⟨rfl, f3⟩
  have h3 := H2.out.fresh f3.below
  have H4 := Lib.hid ((((((h3.s14 (rK z)).s15 (rV z)).s16 true).s4 0).s1 0))
  have x0 := h3.box.c14
  have x1 := h3.box.c15
  have xf := h3.box.f
  have g1 := (h3.s14 (rK z))
  have g2 := g1.s15 (rV z)
  have g3 := g2.s16 true
  have g4 := g3.s4 0
  have y1 := g1.box.c15
  have yf := g1.box.f
  have z1 := g2.box.c16
  have zf := g2.box.f
  have u1 := g3.box.c4
  have uf := g3.box.f
  have v1 := g4.box.c1
  have vf := g4.box.f
  clear g1 g2 g3 g4 h3 f3 H2
  go_wp2
  go_end0
  exact ⟨rfl, H4.out⟩
end

end Go.Proofs.Ythefdglocnalhaa.M2
