/-
  act of a turn (package sweep): a switch whose cases go on into one another; each place does its step, and ends ahead of the next one. Conditions: a turn beside its memory, as CM says; steps below a million. slices.Clone of items: a row of one's own. Conditions: at most a million items, that lie in memory. Sweeps and Step of package sweep: what a step makes of a thread and of the memory. Conditions: a memory as Mem says; a batch of at most a thousand items, that lies in memory; steps below a million. Step of package sweep of a thread without a batch. Conditions: a memory as Mem1 says; steps below a million. A range over a function value whose rounds may go on, break, or return: N rounds at most, one behind the other. Between two rounds the function may write to blocks of its own (F). Conditions: outside of any other round; no Go function is looked at here. Which records a list comes to (a path), in plain lists; the map of those that were met. Conditions: none. Contracts of package list: cell, see, from, all, stale. Conditions: a memory as Mem1 says. What along of package list goes through, as a range's function. Conditions: a memory as Mem1 says. What all of package list goes through, as a range's function. Conditions: a memory as Mem1 says. A list of numbers in a variable that a range's round appends to. Conditions: at most a thousand numbers.
-/
import Derived.Test.YtfnjbbokbdddpaaG0317
import Derived.Test.YtfnjbbokbdddpaaG0217
import Derived.BigRegion
import Derived.RangeFuncNested
import Derived.RangeFuncBound
import Derived.RangeFuncCalls
import Derived.RangeFuncLeaves
import Derived.RangeFuncBox
import Derived.Shelf.Abstract
import Derived.Shelf.RegionOpen
import Derived.OwnWalkIn
import Derived.TacticsInMore
import Derived.LoopNIn
import Derived.LoopIn
import Derived.Maps.AppendAt
import Derived.MapKept
import Derived.Carry
namespace Go.Proofs.Ytfnjbbokbdddpaa.M2
open Go.RowKit

section
variable {w0 w : World} {M B p N : Nat} {v0 : Value} {size : Int} {t : Th} {b : Value} {ag : Int} {l : List It3} {zs : List Int} {st : Int}

set_option maxRecDepth 100000 in
set_option maxHeartbeats 1600000 in
theorem actP40 (h : CM w0 M B p N v0 size t b ag l zs st w) (hp : t.pc = 40) (k0 : 0 ≤ st) (k1 : st < 1000000) : Calls Try.prog 45 #[.pointer (some ⟨N, 0, none⟩)] w fun e w' => e = .returned (.tuple #[]) ∧ CM w0 M B p N v0 size (swt ag t zs).t b ag l (swt ag t zs).zs (st + (swt ag t zs).c) w' := by
  rw [swt40 ag t zs hp]
  dsimp only
  have c1 := h.box.c1
  rw [hp] at c1
  by_cases hz : ld zs 1 = 0
  · rw [if_pos hz]
    have C := followP0 h 1 hz k0 k1
    clear h hp hz
    go_enter Try.func45, Try.ntmps45
    go_wp2_with fail
    with_reducible refine C.mono ?_
    rintro e wh2 ⟨rfl, h2⟩
    clear C c1
    have H9 := Lib.hid h2
    clear h2
    go_wp2
    first | go_end0 | refine bodyPost_ret (results_none rfl _ _ _) rfl ?_
    exact ⟨rfl, H9.out⟩
  · rw [if_neg hz]
    have C := followP h 1 hz k0 k1
    have HP := Lib.hid hp
    clear h hp hz
    go_enter Try.func45, Try.ntmps45
    go_wp2_with fail
    with_reducible refine C.mono ?_
    rintro e wh2 ⟨rfl, h2⟩
    clear C c1
    have hd := h2.drew
    have E := endsY hd 41 (show t.pc ≠ 41 by rw [HP.out]; decide)
    clear h2 hd
    go_wp2
    refine wp_region_noPanic ?_
    refine wp_region_held_drew (S := fun _ => True) (by kernel_rfl) trivial (fun _ => ?_)
    refine wpAnyH_take (i := 0) (v := ?_) rfl (by kernel_rfl) (by kernel_rfl) (by kernel_rfl) (fun _ _ _ h => h) (Or.inl ⟨by rfl, ?_⟩) trivial ?_
    rotate_left
    · intro w hSw
      go_simp
      try with_reducible rfl
    try simp only [List.getElem_toArray, List.getElem_cons_zero, Act.put, List.setIfInBounds_toArray, List.set_cons_zero, List.set_cons_succ]
    refine wpAnyH_ready (rs := [1]) (by kernel_rfl) (by simp) ?_
    refine AllReadyH.cons rfl (fun K hK => ?_) AllReadyH.nil
    go_simp
    with_reducible refine E.mono ?_
    rintro e w9 ⟨rfl, h9⟩
    have H9 := Lib.hid h9
    clear h9
    try go_wp2_with fail
    refine hK.out _ _ trivial (fun _ => ?_)
    clear hK K
    try simp only [List.getElem_toArray, List.getElem_cons_succ, List.getElem_cons_zero, Act.put, List.setIfInBounds_toArray, List.set_cons_zero, List.set_cons_succ]
    refine wpAnyH_take (i := 2) (v := ?_) rfl (by kernel_rfl) (by kernel_rfl) (by kernel_rfl) (fun _ _ _ h => h) (Or.inl ⟨by rfl, ?_⟩) trivial ?_
    rotate_left
    · intro w hSw
      go_simp
      try with_reducible rfl
    try simp only [List.getElem_toArray, List.getElem_cons_succ, List.getElem_cons_zero, Act.put, List.setIfInBounds_toArray, List.set_cons_zero, List.set_cons_succ]
    refine wpAnyH_take (i := 3) (v := undef) rfl (by kernel_rfl) (by kernel_rfl) (by kernel_rfl) (fun _ _ _ h => h) (Or.inr ⟨by rfl, rfl⟩) trivial ?_
    try simp only [List.getElem_toArray, List.getElem_cons_succ, List.getElem_cons_zero, Act.put, List.setIfInBounds_toArray, List.set_cons_zero, List.set_cons_succ]
    refine wpAnyH_take (i := 4) (v := undef) rfl (by kernel_rfl) (by kernel_rfl) (by kernel_rfl) (fun _ _ _ h => h) (Or.inr ⟨by rfl, rfl⟩) trivial ?_
    try simp only [List.getElem_toArray, List.getElem_cons_succ, List.getElem_cons_zero, Act.put, List.setIfInBounds_toArray, List.set_cons_zero, List.set_cons_succ]
    refine wpAnyH_take (i := 5) (v := undef) rfl (by kernel_rfl) (by kernel_rfl) (by kernel_rfl) (fun _ _ _ h => h) (Or.inr ⟨by rfl, rfl⟩) trivial ?_
    try simp only [List.getElem_toArray, List.getElem_cons_succ, List.getElem_cons_zero, Act.put, List.setIfInBounds_toArray, List.set_cons_zero, List.set_cons_succ]
    refine wpAnyH_take (i := 6) (v := undef) rfl (by kernel_rfl) (by kernel_rfl) (by kernel_rfl) (fun _ _ _ h => h) (Or.inr ⟨by rfl, rfl⟩) trivial ?_
    try simp only [List.getElem_toArray, List.getElem_cons_succ, List.getElem_cons_zero, Act.put, List.setIfInBounds_toArray, List.set_cons_zero, List.set_cons_succ]
    refine wpAnyH_take (i := 7) (v := undef) rfl (by kernel_rfl) (by kernel_rfl) (by kernel_rfl) (fun _ _ _ h => h) (Or.inr ⟨by rfl, rfl⟩) trivial ?_
    try simp only [List.getElem_toArray, List.getElem_cons_succ, List.getElem_cons_zero, Act.put, List.setIfInBounds_toArray, List.set_cons_zero, List.set_cons_succ]
    refine wpAnyH_take (i := 8) (v := undef) rfl (by kernel_rfl) (by kernel_rfl) (by kernel_rfl) (fun _ _ _ h => h) (Or.inr ⟨by rfl, rfl⟩) trivial ?_
    try simp only [List.getElem_toArray, List.getElem_cons_succ, List.getElem_cons_zero, Act.put, List.setIfInBounds_toArray, List.set_cons_zero, List.set_cons_succ]
    refine wpAnyH_take (i := 9) (v := undef) rfl (by kernel_rfl) (by kernel_rfl) (by kernel_rfl) (fun _ _ _ h => h) (Or.inr ⟨by rfl, rfl⟩) trivial ?_
    try simp only [List.getElem_toArray, List.getElem_cons_succ, List.getElem_cons_zero, Act.put, List.setIfInBounds_toArray, List.set_cons_zero, List.set_cons_succ]
    refine wpAnyH_take (i := 10) (v := undef) rfl (by kernel_rfl) (by kernel_rfl) (by kernel_rfl) (fun _ _ _ h => h) (Or.inr ⟨by rfl, rfl⟩) trivial ?_
    try simp only [List.getElem_toArray, List.getElem_cons_succ, List.getElem_cons_zero, Act.put, List.setIfInBounds_toArray, List.set_cons_zero, List.set_cons_succ]
    refine wpAnyH_take (i := 11) (v := undef) rfl (by kernel_rfl) (by kernel_rfl) (by kernel_rfl) (fun _ _ _ h => h) (Or.inr ⟨by rfl, rfl⟩) trivial ?_
    try simp only [List.getElem_toArray, List.getElem_cons_succ, List.getElem_cons_zero, Act.put, List.setIfInBounds_toArray, List.set_cons_zero, List.set_cons_succ]
    refine wpAnyH_take (i := 12) (v := undef) rfl (by kernel_rfl) (by kernel_rfl) (by kernel_rfl) (fun _ _ _ h => h) (Or.inr ⟨by rfl, rfl⟩) trivial ?_
    try simp only [List.getElem_toArray, List.getElem_cons_succ, List.getElem_cons_zero, Act.put, List.setIfInBounds_toArray, List.set_cons_zero, List.set_cons_succ]
    refine wpAnyH_take (i := 13) (v := undef) rfl (by kernel_rfl) (by kernel_rfl) (by kernel_rfl) (fun _ _ _ h => h) (Or.inr ⟨by rfl, rfl⟩) trivial ?_
    try simp only [List.getElem_toArray, List.getElem_cons_succ, List.getElem_cons_zero, Act.put, List.setIfInBounds_toArray, List.set_cons_zero, List.set_cons_succ]
    refine wpAnyH_take (i := 14) (v := undef) rfl (by kernel_rfl) (by kernel_rfl) (by kernel_rfl) (fun _ _ _ h => h) (Or.inr ⟨by rfl, rfl⟩) trivial ?_
    try simp only [List.getElem_toArray, List.getElem_cons_succ, List.getElem_cons_zero, Act.put, List.setIfInBounds_toArray, List.set_cons_zero, List.set_cons_succ]
    refine wpAnyH_take (i := 15) (v := undef) rfl (by kernel_rfl) (by kernel_rfl) (by kernel_rfl) (fun _ _ _ h => h) (Or.inr ⟨by rfl, rfl⟩) trivial ?_
    try simp only [List.getElem_toArray, List.getElem_cons_succ, List.getElem_cons_zero, Act.put, List.setIfInBounds_toArray, List.set_cons_zero, List.set_cons_succ]
    refine wpAnyH_take (i := 16) (v := ?_) rfl (by kernel_rfl) (by kernel_rfl) (by kernel_rfl) (fun _ _ _ h => h) (Or.inl ⟨by rfl, ?_⟩) trivial ?_
    rotate_left
    · intro w hSw
      go_simp
      try with_reducible rfl
    try simp only [List.getElem_toArray, List.getElem_cons_succ, List.getElem_cons_zero, Act.put, List.setIfInBounds_toArray, List.set_cons_zero, List.set_cons_succ]
    refine wpAnyH_done (by kernel_rfl) ?_ _
    refine NoPanic.normal ?_
    go_wp2
    first | go_end0 | refine bodyPost_ret (results_none rfl _ _ _) rfl ?_
    exact ⟨rfl, H9.out⟩

set_option maxRecDepth 100000 in
set_option maxHeartbeats 1600000 in
theorem actP41 (h : CM w0 M B p N v0 size t b ag l zs st w) (hp : t.pc = 41) (k0 : 0 ≤ st) (k1 : st < 1000000) : Calls Try.prog 45 #[.pointer (some ⟨N, 0, none⟩)] w fun e w' => e = .returned (.tuple #[]) ∧ CM w0 M B p N v0 size (swt ag t zs).t b ag l (swt ag t zs).zs (st + (swt ag t zs).c) w' := by
  rw [swt41 ag t zs hp]
  dsimp only
  have c1 := h.box.c1
  rw [hp] at c1
  have hd := h.drew
  have i0 := show (fun w' : World => w'.cell? ⟨N, 7, none⟩ = some (.int .i64 t.pv)) _ from hd.box.c7
  have E := endsN hd 41 hp
  have HP := Lib.hid hp
  by_cases hz : ld zs (ad t.pv 3) = 0
  · rw [if_pos hz]
    have F := fun w (h : CM w0 M B p N v0 size t b ag l zs st w) => followC0 h (IntKind.i64.wrap (t.pv + 3)) (by rw [IntWalk.i64_left]; exact hz) k0 k1
    clear h hp hd hz
    go_enter Try.func45, Try.ntmps45
    go_wp2
    go_region_held3 (fun w' : World => w'.cell? ⟨N, 7, none⟩ = some (.int .i64 t.pv)) (first | with_reducible exact i0 | with_reducible exact i1 | with_reducible exact i2) (first
      | ((with_reducible refine E.mono ?_); rintro e w1 ⟨rfl, h1⟩; have i1 := show (fun w' : World => w'.cell? ⟨N, 7, none⟩ = some (.int .i64 t.pv)) _ from h1.box.c7; have H1 := Lib.hid h1; clear h1)
      | ((with_reducible refine (F _ H1.out).mono ?_); rintro e w2 ⟨rfl, h2⟩; rw [IntWalk.i64_left] at h2; have i2 := show (fun w' : World => w'.cell? ⟨N, 7, none⟩ = some (.int .i64 t.pv)) _ from h2.box.c7; have H2 := Lib.hid h2; clear h2))
    all_goals (go_wp2; first | go_end0 | refine bodyPost_ret (results_none rfl _ _ _) rfl ?_)
    all_goals exact ⟨rfl, H2.out⟩
  · rw [if_neg hz]
    have F := fun w (h : CM w0 M B p N v0 size t b ag l zs st w) => followC h (IntKind.i64.wrap (t.pv + 3)) (by rw [IntWalk.i64_left]; exact hz) k0 k1
    clear h hp hd hz
    go_enter Try.func45, Try.ntmps45
    go_wp2
    go_region_held3 (fun w' : World => w'.cell? ⟨N, 7, none⟩ = some (.int .i64 t.pv)) (first | with_reducible exact i0 | with_reducible exact i1 | with_reducible exact i2) (first
      | ((with_reducible refine E.mono ?_); rintro e w1 ⟨rfl, h1⟩; have i1 := show (fun w' : World => w'.cell? ⟨N, 7, none⟩ = some (.int .i64 t.pv)) _ from h1.box.c7; have H1 := Lib.hid h1; clear h1)
      | ((with_reducible refine (F _ H1.out).mono ?_); rintro e w2 ⟨rfl, h2⟩; rw [IntWalk.i64_left] at h2; have i2 := show (fun w' : World => w'.cell? ⟨N, 7, none⟩ = some (.int .i64 t.pv)) _ from h2.box.c7; have H2 := Lib.hid h2; clear h2))
    all_goals (have E2 := endsY H2.out 42 (show t.pc ≠ 42 by rw [HP.out]; decide); go_wp2_with fail; with_reducible refine E2.mono ?_; clear E2; rintro e w9 ⟨rfl, h9⟩; have H9 := Lib.hid h9; clear h9; go_wp2; first | go_end0 | refine bodyPost_ret (results_none rfl _ _ _) rfl ?_)
    all_goals exact ⟨rfl, H9.out⟩

set_option maxRecDepth 100000 in
set_option maxHeartbeats 1600000 in
theorem actP42 (h : CM w0 M B p N v0 size t b ag l zs st w) (hp : t.pc = 42) (k0 : 0 ≤ st) (k1 : st < 1000000) : Calls Try.prog 45 #[.pointer (some ⟨N, 0, none⟩)] w fun e w' => e = .returned (.tuple #[]) ∧ CM w0 M B p N v0 size (swt ag t zs).t b ag l (swt ag t zs).zs (st + (swt ag t zs).c) w' := by
  rw [swt42 ag t zs hp]
  dsimp only
  have c1 := h.box.c1
  rw [hp] at c1
  have E := endsN h 42 hp
  have HP := Lib.hid hp
  have F := fun w (h : CM w0 M B p N v0 size t b ag l zs st w) => liveT h k0 k1
  clear h hp
  obtain ⟨is, his⟩ : ∃ is, (ld zs (ad t.cu 1) == 1) = is := ⟨_, rfl⟩
  rw [his] at F ⊢
  clear his
  obtain ⟨T, hT⟩ : ∃ T : Th, { t with lk := ld zs (ad t.cu 1) } = T := ⟨_, rfl⟩
  have HT := Lib.hid (show T.pc = 42 by rw [← hT]; exact HP.out)
  rw [hT] at F ⊢
  clear hT
  cases is
  · rw [show tkT false 43 T = byT T from rfl]
    go_enter Try.func45, Try.ntmps45
    go_wp2_with fail
    with_reducible refine E.mono ?_
    rintro e wh1 ⟨rfl, h1⟩
    clear E c1
    have F1 := F _ h1
    clear h1
    go_wp2_with fail
    with_reducible refine F1.mono ?_
    rintro e wh2 ⟨rfl, h2⟩
    clear F1
    have K := takesN h2
    clear h2
    go_wp2_with fail
    with_reducible refine K.mono ?_
    rintro e wh3 ⟨rfl, h3⟩
    clear K
    have H9 := Lib.hid h3
    clear h3
    go_wp2
    first | go_end0 | refine bodyPost_ret (results_none rfl _ _ _) rfl ?_
    exact ⟨rfl, H9.out⟩
  · rw [show tkT true 43 T = { T with pc := 43 } from rfl]
    go_enter Try.func45, Try.ntmps45
    go_wp2_with fail
    with_reducible refine E.mono ?_
    rintro e wh1 ⟨rfl, h1⟩
    clear E c1
    have F1 := F _ h1
    clear h1
    go_wp2_with fail
    with_reducible refine F1.mono ?_
    rintro e wh2 ⟨rfl, h2⟩
    clear F1
    have K := takesY h2
    clear h2
    go_wp2_with fail
    with_reducible refine K.mono ?_
    rintro e wh3 ⟨rfl, h3⟩
    clear K
    have E := endsY h3 43 (show T.pc ≠ 43 by rw [HT.out]; decide)
    clear h3
    go_wp2_with fail
    with_reducible refine E.mono ?_
    rintro e wh9 ⟨rfl, h9⟩
    clear E
    have H9 := Lib.hid h9
    clear h9
    go_wp2
    first | go_end0 | refine bodyPost_ret (results_none rfl _ _ _) rfl ?_
    exact ⟨rfl, H9.out⟩

set_option maxRecDepth 100000 in
set_option maxHeartbeats 1600000 in
theorem actP43 (h : CM w0 M B p N v0 size t b ag l zs st w) (hp : t.pc = 43) (k0 : 0 ≤ st) (k1 : st < 1000000) : Calls Try.prog 45 #[.pointer (some ⟨N, 0, none⟩)] w fun e w' => e = .returned (.tuple #[]) ∧ CM w0 M B p N v0 size (swt ag t zs).t b ag l (swt ag t zs).zs (st + (swt ag t zs).c) w' := by
  rw [swt43 ag t zs hp]
  dsimp only
  have c1 := h.box.c1
  rw [hp] at c1
  have E := endsN h 43 hp
  have HP := Lib.hid hp
  have F := fun w (h : CM w0 M B p N v0 size t b ag l zs st w) => oldT h k0 k1
  clear h hp
  obtain ⟨is, his⟩ : ∃ is, (decide (ag < wrap64 (t.ps - ld zs (ad t.cu 2)))) = is := ⟨_, rfl⟩
  rw [his] at F ⊢
  clear his
  obtain ⟨T, hT⟩ : ∃ T : Th, { t with lk := ld zs (ad t.cu 2) } = T := ⟨_, rfl⟩
  have HT := Lib.hid (show T.pc = 43 by rw [← hT]; exact HP.out)
  rw [hT] at F ⊢
  clear hT
  cases is
  · rw [show tkT false 44 T = byT T from rfl]
    go_enter Try.func45, Try.ntmps45
    go_wp2_with fail
    with_reducible refine E.mono ?_
    rintro e wh1 ⟨rfl, h1⟩
    clear E c1
    have F1 := F _ h1
    clear h1
    go_wp2_with fail
    with_reducible refine F1.mono ?_
    rintro e wh2 ⟨rfl, h2⟩
    clear F1
    have K := takesN h2
    clear h2
    go_wp2_with fail
    with_reducible refine K.mono ?_
    rintro e wh3 ⟨rfl, h3⟩
    clear K
    have H9 := Lib.hid h3
    clear h3
    go_wp2
    first | go_end0 | refine bodyPost_ret (results_none rfl _ _ _) rfl ?_
    exact ⟨rfl, H9.out⟩
  · rw [show tkT true 44 T = { T with pc := 44 } from rfl]
    go_enter Try.func45, Try.ntmps45
    go_wp2_with fail
    with_reducible refine E.mono ?_
    rintro e wh1 ⟨rfl, h1⟩
    clear E c1
    have F1 := F _ h1
    clear h1
    go_wp2_with fail
    with_reducible refine F1.mono ?_
    rintro e wh2 ⟨rfl, h2⟩
    clear F1
    have K := takesY h2
    clear h2
    go_wp2_with fail
    with_reducible refine K.mono ?_
    rintro e wh3 ⟨rfl, h3⟩
    clear K
    have E := endsY h3 44 (show T.pc ≠ 44 by rw [HT.out]; decide)
    clear h3
    go_wp2_with fail
    with_reducible refine E.mono ?_
    rintro e wh9 ⟨rfl, h9⟩
    clear E
    have H9 := Lib.hid h9
    clear h9
    go_wp2
    first | go_end0 | refine bodyPost_ret (results_none rfl _ _ _) rfl ?_
    exact ⟨rfl, H9.out⟩

set_option maxRecDepth 100000 in
set_option maxHeartbeats 1600000 in
theorem actP44 (h : CM w0 M B p N v0 size t b ag l zs st w) (hp : t.pc = 44) (k0 : 0 ≤ st) (k1 : st < 1000000) : Calls Try.prog 45 #[.pointer (some ⟨N, 0, none⟩)] w fun e w' => e = .returned (.tuple #[]) ∧ CM w0 M B p N v0 size (swt ag t zs).t b ag l (swt ag t zs).zs (st + (swt ag t zs).c) w' := by
  rw [swt44 ag t zs hp]
  dsimp only
  have c1 := h.box.c1
  rw [hp] at c1
  have E := endsN h 44 hp
  have HP := Lib.hid hp
  have F := fun w (h : CM w0 M B p N v0 size t b ag l zs st w) => closesT h k0 k1
  clear h hp
  obtain ⟨is, his⟩ : ∃ is, (swb zs (ad t.cu 0) 0) = is := ⟨_, rfl⟩
  rw [his] at F ⊢
  clear his
  cases is
  · rw [show tkT false 45 t = byT t from rfl]
    go_enter Try.func45, Try.ntmps45
    go_wp2_with fail
    with_reducible refine E.mono ?_
    rintro e wh1 ⟨rfl, h1⟩
    clear E c1
    have F1 := F _ h1
    clear h1
    go_wp2_with fail
    with_reducible refine F1.mono ?_
    rintro e wh2 ⟨rfl, h2⟩
    clear F1
    have K := takesN h2
    clear h2
    go_wp2_with fail
    with_reducible refine K.mono ?_
    rintro e wh3 ⟨rfl, h3⟩
    clear K
    have H9 := Lib.hid h3
    clear h3
    go_wp2
    first | go_end0 | refine bodyPost_ret (results_none rfl _ _ _) rfl ?_
    exact ⟨rfl, H9.out⟩
  · rw [show tkT true 45 t = { t with pc := 45 } from rfl]
    go_enter Try.func45, Try.ntmps45
    go_wp2_with fail
    with_reducible refine E.mono ?_
    rintro e wh1 ⟨rfl, h1⟩
    clear E c1
    have F1 := F _ h1
    clear h1
    go_wp2_with fail
    with_reducible refine F1.mono ?_
    rintro e wh2 ⟨rfl, h2⟩
    clear F1
    have K := takesY h2
    clear h2
    go_wp2_with fail
    with_reducible refine K.mono ?_
    rintro e wh3 ⟨rfl, h3⟩
    clear K
    have E := endsY h3 45 (show t.pc ≠ 45 by rw [HP.out]; decide)
    clear h3
    go_wp2_with fail
    with_reducible refine E.mono ?_
    rintro e wh9 ⟨rfl, h9⟩
    clear E
    have H9 := Lib.hid h9
    clear h9
    go_wp2
    first | go_end0 | refine bodyPost_ret (results_none rfl _ _ _) rfl ?_
    exact ⟨rfl, H9.out⟩

set_option maxRecDepth 100000 in
set_option maxHeartbeats 1600000 in
theorem actP45 (h : CM w0 M B p N v0 size t b ag l zs st w) (hp : t.pc = 45) (k0 : 0 ≤ st) (k1 : st < 1000000) : Calls Try.prog 45 #[.pointer (some ⟨N, 0, none⟩)] w fun e w' => e = .returned (.tuple #[]) ∧ CM w0 M B p N v0 size (swt ag t zs).t b ag l (swt ag t zs).zs (st + (swt ag t zs).c) w' := by
  rw [swt45 ag t zs hp]
  dsimp only
  have c1 := h.box.c1
  rw [hp] at c1
  have E := endsN h 45 hp
  have HP := Lib.hid hp
  clear h hp
  go_enter Try.func45, Try.ntmps45
  go_wp2_with fail
  with_reducible refine E.mono ?_
  rintro e wh1 ⟨rfl, h1⟩
  clear E c1
  have c6 := h1.box.c6
  have cf := h1.box.f
  have F := loadT h1 (wrap64 (t.cu + 3)) k0 k1
  clear h1
  go_wp2_with fail
  with_reducible refine F.mono ?_
  rintro e wh2 ⟨rfl, h2⟩
  clear F c6 cf
  have E := endsY h2 46 (show t.pc ≠ 46 by rw [HP.out]; decide)
  clear h2
  go_wp2_with fail
  with_reducible refine E.mono ?_
  rintro e wh9 ⟨rfl, h9⟩
  clear E
  have H9 := Lib.hid h9
  clear h9
  go_wp2
  first | go_end0 | refine bodyPost_ret (results_none rfl _ _ _) rfl ?_
  exact ⟨rfl, H9.out⟩

set_option maxRecDepth 100000 in
set_option maxHeartbeats 1600000 in
theorem actP46 (h : CM w0 M B p N v0 size t b ag l zs st w) (hp : t.pc = 46) (k0 : 0 ≤ st) (k1 : st < 1000000) : Calls Try.prog 45 #[.pointer (some ⟨N, 0, none⟩)] w fun e w' => e = .returned (.tuple #[]) ∧ CM w0 M B p N v0 size (swt ag t zs).t b ag l (swt ag t zs).zs (st + (swt ag t zs).c) w' := by
  rw [swt46 ag t zs hp]
  dsimp only
  have c1 := h.box.c1
  rw [hp] at c1
  have E := endsN h 46 hp
  have HP := Lib.hid hp
  clear h hp
  go_enter Try.func45, Try.ntmps45
  go_wp2_with fail
  with_reducible refine E.mono ?_
  rintro e wh1 ⟨rfl, h1⟩
  clear E c1
  have hd := h1.drew
  have i0 := show (fun w' : World => w'.cell? ⟨N, 7, none⟩ = some (.int .i64 t.pv) ∧ w'.cell? ⟨N, 5, none⟩ = some (.int .i64 t.lk)) _ from ⟨hd.box.c7, hd.box.c5⟩
  have F := storeT hd (IntKind.i64.wrap (t.pv + 3)) t.lk k0 k1
  clear h1 hd
  go_wp2
  go_region_held3 (fun w' : World => w'.cell? ⟨N, 7, none⟩ = some (.int .i64 t.pv) ∧ w'.cell? ⟨N, 5, none⟩ = some (.int .i64 t.lk)) (first | with_reducible exact i0 | with_reducible exact i1) (first
    | ((with_reducible refine F.mono ?_); rintro e w2 ⟨rfl, h2⟩; rw [IntWalk.i64_left] at h2; have i1 := show (fun w' : World => w'.cell? ⟨N, 7, none⟩ = some (.int .i64 t.pv) ∧ w'.cell? ⟨N, 5, none⟩ = some (.int .i64 t.lk)) _ from ⟨h2.box.c7, h2.box.c5⟩; have H2 := Lib.hid h2; clear h2))
  all_goals (have E2 := endsY H2.out 47 (show t.pc ≠ 47 by rw [HP.out]; decide); go_wp2_with fail; with_reducible refine E2.mono ?_; clear E2; rintro e w9 ⟨rfl, h9⟩; have H9 := Lib.hid h9; clear h9; go_wp2; first | go_end0 | refine bodyPost_ret (results_none rfl _ _ _) rfl ?_)
  all_goals exact ⟨rfl, H9.out⟩

set_option maxRecDepth 100000 in
set_option maxHeartbeats 1600000 in
theorem actP47 (h : CM w0 M B p N v0 size t b ag l zs st w) (hp : t.pc = 47) (k0 : 0 ≤ st) (k1 : st < 1000000) : Calls Try.prog 45 #[.pointer (some ⟨N, 0, none⟩)] w fun e w' => e = .returned (.tuple #[]) ∧ CM w0 M B p N v0 size (swt ag t zs).t b ag l (swt ag t zs).zs (st + (swt ag t zs).c) w' := by
  rw [swt47 ag t zs hp]
  dsimp only
  have c1 := h.box.c1
  rw [hp] at c1
  have E := endsN h 47 hp
  clear h hp
  go_enter Try.func45, Try.ntmps45
  go_wp2_with fail
  with_reducible refine E.mono ?_
  rintro e wh1 ⟨rfl, h1⟩
  clear E c1
  have c6 := h1.box.c6
  have cf := h1.box.f
  have F := storeT h1 (wrap64 (t.cu + 1)) 0 k0 k1
  clear h1
  go_wp2_with fail
  with_reducible refine F.mono ?_
  rintro e wh2 ⟨rfl, h2⟩
  clear F c6 cf
  have c1 := h2.box.c1
  have cf := h2.box.f
  have H2 := Lib.hid (h2.s1 41)
  clear h2
  go_wp2
  first | go_end0 | refine bodyPost_ret (results_none rfl _ _ _) rfl ?_
  exact ⟨rfl, H2.out⟩

set_option maxRecDepth 100000 in
set_option maxHeartbeats 1600000 in
theorem actP48 (h : CM w0 M B p N v0 size t b ag l zs st w) (hp : t.pc = 48) (k0 : 0 ≤ st) (k1 : st < 1000000) : Calls Try.prog 45 #[.pointer (some ⟨N, 0, none⟩)] w fun e w' => e = .returned (.tuple #[]) ∧ CM w0 M B p N v0 size (swt ag t zs).t b ag l (swt ag t zs).zs (st + (swt ag t zs).c) w' := by
  rw [swt48 ag t zs hp]
  dsimp only
  have c1 := h.box.c1
  rw [hp] at c1
  have F := storeT h 0 0 k0 k1
  clear h hp
  go_enter Try.func45, Try.ntmps45
  go_wp2_with fail
  with_reducible refine F.mono ?_
  rintro e wh2 ⟨rfl, h2⟩
  clear F c1
  have c1 := h2.box.c1
  have cf := h2.box.f
  have H2 := Lib.hid (h2.s1 11)
  clear h2
  go_wp2
  first | go_end0 | refine bodyPost_ret (results_none rfl _ _ _) rfl ?_
  exact ⟨rfl, H2.out⟩

theorem actS (h : CM w0 M B p N v0 size t b ag l zs st w) (hp : 40 ≤ t.pc ∧ t.pc ≤ 48) (k0 : 0 ≤ st) (k1 : st < 1000000) : Calls Try.prog 45 #[.pointer (some ⟨N, 0, none⟩)] w fun e w' => e = .returned (.tuple #[]) ∧ CM w0 M B p N v0 size (swt ag t zs).t b ag l (swt ag t zs).zs (st + (swt ag t zs).c) w' := by
  rcases (show t.pc = 40 ∨ t.pc = 41 ∨ t.pc = 42 ∨ t.pc = 43 ∨ t.pc = 44 ∨ t.pc = 45 ∨ t.pc = 46 ∨ t.pc = 47 ∨ t.pc = 48 by omega) with e | e | e | e | e | e | e | e | e
  · exact actP40 h e k0 k1
  · exact actP41 h e k0 k1
  · exact actP42 h e k0 k1
  · exact actP43 h e k0 k1
  · exact actP44 h e k0 k1
  · exact actP45 h e k0 k1
  · exact actP46 h e k0 k1
  · exact actP47 h e k0 k1
  · exact actP48 h e k0 k1
end

end Go.Proofs.Ytfnjbbokbdddpaa.M2
namespace Go.Proofs.Ytfnjbbokbdddpaa.M2
open Go.RowKit

theorem infoItem : (Try.prog.info? 93).map (fun i => (i.zero, i.size, i.bytes)) = some (some (.agg #[.int .i64 0, .int .i64 0, .int .i64 0]), 3, 24) := by kernel_rfl

set_option maxRecDepth 100000 in
set_option maxHeartbeats 1600000 in
theorem cloneR (w : World) (ao : Option Addr) (n cap : Nat) (l : List (Int × Int × Int)) (h : Its w ao n l) (hn : n ≤ 1000000) (hc : ao = none → cap = 0) :
    Calls Try.prog 44 #[.slice ao n cap] w fun e w' => ∃ v, e = .returned v ∧ BR w.heap.size w' v l ∧ Below w.heap.size w w' ∧ (ao = none → v = .slice none 0 0) := by
  obtain ⟨i0, hi, hz0, hz1, hz2⟩ := info_parts infoItem
  cases ao with
  | none =>
    have hn0 : n = 0 := by
      rcases Nat.eq_zero_or_pos n with h1 | h1
      · exact h1
      · obtain ⟨b, off, e, _⟩ := h.2 h1
        cases e
    subst hn0
    obtain rfl := hc rfl
    have he : ∀ w, (binOp .eql 23 (.slice none 0 0) (.slice none 0 0)).run Try.prog w = .ok (.bool true) w := fun _ => rfl
    have H := Lib.hid h
    clear h
    go_enter Try.func44, Try.ntmps44
    go_wp2
    go_ret
    have hl0 : l = [] := List.eq_nil_of_length_eq_zero H.out.1
    exact ⟨.slice none 0 0, rfl, by rw [hl0]; exact BR.nil _ _, Below.refl _ _, rfl⟩
  | some ad =>
    have H := Lib.hid h
    have HI := Lib.hid hi
    have H0 := Lib.hid hz0
    have H1 := Lib.hid hz1
    have H2 := Lib.hid hz2
    clear h hi hz0 hz1 hz2 hc
    have he : ∀ w, (binOp .eql 23 (.slice (some ad) n cap) (.slice none 0 0)).run Try.prog w = .ok (.bool false) w := fun _ => rfl
    go_enter Try.func44, Try.ntmps44
    have HO := Lib.hid (show (w.alloc (.cells #[] 93)).ownsRow w.heap.size 93 3 (.slice (some ⟨w.heap.size, 0, none⟩) 0 0) 0 [] from ⟨rfl, .inr ⟨w.heap.size, 0, #[], rfl, Nat.le_refl _, heap_alloc_new w _, by simp⟩⟩)
    have HA := Lib.hid (show Below w.heap.size w (w.alloc (.cells #[] 93)) from (Below.refl _ _).alloc (Nat.le_refl _) _)
    have HS := Lib.hid (show ∀ j u, (fi l)[j]? = some u → (w.alloc (.cells #[] 93)).cell? (ad.add j) = some u by
      intro j u hu
      rcases Nat.eq_zero_or_pos n with h0 | h0
      · have : fi l = [] := List.eq_nil_of_length_eq_zero (by rw [fi_length, H.out.1]; omega)
        rw [this] at hu
        simp at hu
      · obtain ⟨ad', e, hc⟩ := (H.out.keep HA.out).src h0
        injection e with e
        subst e
        exact hc j u hu)
    have HN := Lib.hid (fi_length l)
    have HL := Lib.hid H.out.1
    go_upto_region 3 with (fail)
    go_wp2_with (at_builtin; (refine wpList_append_own _ rfl (.tmp 5) (.tmp 6) 23 rfl w.heap.size 93 i0 _ 3 24 Try.underlying23 HI.out H0.out H1.out H2.out rfl (by decide) _ 0 [] rfl HO.out ad n cap (fi l) rfl (by rw [HN.out, HL.out]) HS.out (fi_one l) (by simp only [maxLen]; omega) (by omega) (by simp) ?_; intro v' w5 q5 g5 _; rw [Nat.zero_add, List.nil_append] at q5; have H5 := Lib.hid q5; have B5' := Lib.hid (HA.out.grown g5 (by simp) (fun k e => by injection e with e; exact Nat.le_of_eq e)); clear q5 g5))
    go_ret
    exact ⟨v', rfl, by unfold BR; rw [HL.out]; exact H5.out, B5'.out, fun h => by cases h⟩


theorem BR.its {M : Nat} {w : World} {b : Value} {l : List It3} (h : BR M w b l) : ∃ ao cap, b = .slice ao l.length cap ∧ Its w ao l.length l ∧ (∀ a, ao = some a → M ≤ a.block) ∧ (ao = none → cap = 0) ∧ b.ownBlock = ao.map (·.block) := by
  obtain ⟨ao, cap, rfl, h1, h2⟩ := Its.own h
  refine ⟨ao, cap, rfl, h1, h2, fun e => ?_, ?_⟩
  · subst e
    rcases h.2 with ⟨h', _⟩ | ⟨g, cap, cur, h', _⟩
    · injection h'
    · injection h' with h'; cases h'
  · cases ao <;> rfl
end Go.Proofs.Ytfnjbbokbdddpaa.M2
namespace Go.Proofs.Ytfnjbbokbdddpaa.M2
open Go.RowKit

set_option maxRecDepth 100000 in
set_option maxHeartbeats 1600000 in
theorem sweepsO (w : World) (t : Th) (b : Value) (hb : ∃ ao n cap, b = .slice ao n cap) : Calls Try.prog 24 #[thV t b] w fun e w' => e = .returned (.bool (decide (40 ≤ t.pc ∧ t.pc ≤ 48))) ∧ Below w.heap.size w w' := by
  unfold thV
  obtain ⟨ao, n, cap, rfl⟩ := hb
  have HB := Lib.hid (show Below w.heap.size w (w.alloc (.cells #[.int .i64 t.ti, .int .i64 t.pc, .int .i64 t.rc, .int .i64 t.sq, .int .i64 t.wo, .int .i64 t.lk, .int .i64 t.cu, .int .i64 t.pv, .int .i64 t.nt, .int .i64 t.mx, .int .i64 t.ps, .int .i64 t.rn, .slice ao n cap] 25)) from (Below.refl _ _).alloc (Nat.le_refl _) _)
  rcases (show t.pc < 40 ∨ (40 ≤ t.pc ∧ 48 < t.pc) ∨ (40 ≤ t.pc ∧ t.pc ≤ 48) from by omega) with h | h | h
  · have e : decide (40 ≤ t.pc ∧ t.pc ≤ 48) = false := decide_eq_false (by omega)
    rw [e]
    clear e
    have h1 : decide (40 ≤ t.pc) = false := decide_eq_false (by omega)
    generalize t.pc = y at *
    go_enter Try.func24, Try.ntmps24
    go_wp2
    go_ret
    exact ⟨rfl, HB.out⟩
  · have e : decide (40 ≤ t.pc ∧ t.pc ≤ 48) = false := decide_eq_false (by omega)
    rw [e]
    clear e
    obtain ⟨h1, h2⟩ := h
    have h3 : decide (40 ≤ t.pc) = true := decide_eq_true h1
    have h4 : decide (t.pc ≤ 48) = false := decide_eq_false (by omega)
    generalize t.pc = y at *
    go_enter Try.func24, Try.ntmps24
    go_wp2
    go_ret
    exact ⟨rfl, HB.out⟩
  · have e : decide (40 ≤ t.pc ∧ t.pc ≤ 48) = true := decide_eq_true h
    rw [e]
    clear e
    obtain ⟨h1, h2⟩ := h
    have h3 : decide (40 ≤ t.pc) = true := decide_eq_true h1
    have h4 : decide (t.pc ≤ 48) = true := decide_eq_true h2
    generalize t.pc = y at *
    go_enter Try.func24, Try.ntmps24
    go_wp2
    go_ret
    exact ⟨rfl, HB.out⟩

theorem sc_os (w : World) (q : Addr) (v : Value) : (w.setCell q v).os = w.os := rfl
theorem sc_tape (w : World) (q : Addr) (v : Value) : (w.setCell q v).tape = w.tape := rfl
theorem sc_output (w : World) (q : Addr) (v : Value) : (w.setCell q v).output = w.output := rfl
theorem setT_ot (w : World) (g : Nat) (t : Th) (b : Value) : (setT w g t b).os = w.os ∧ (setT w g t b).tape = w.tape ∧ (setT w g t b).output = w.output := by
  simp only [setT, sc_os, sc_tape, sc_output, and_self]
section
variable {w a : World} {B p g M : Nat} {v0 b b' : Value} {size : Int} {zs : List Int} {st : Int} {t t' : Th} {l : List It3}
theorem Did.setT (d : Did B p v0 size zs st w a) (hg : TX a g t b) (lo : w.heap.size ≤ g) (t' : Th) (b' : Value) : Did B p v0 size zs st w (setT a g t' b') := by
  obtain ⟨u, m, wr, lt⟩ := d
  have ne : ∀ {k : Nat} {cs : Array Value} {ty : TypeId}, a.heap[k]? = some (Obj.cells cs ty (0, 0)) → ty ≠ 25 → k ≠ g := fun {k cs ty} e hty h => by
    subst h
    unfold TX at hg
    rw [hg] at e
    simp only [Option.some.injEq, Obj.cells.injEq] at e
    exact hty e.2.1.symm
  have ot := setT_ot a g t' b'
  refine ⟨u, m.keep (setT_other a (ne m.block (by decide)) t' b') (fun q hq => ?_), ⟨ot.1.trans wr.os, ot.2.1.trans wr.tape, ot.2.2.trans wr.output, by rw [setT_size]; exact wr.size, fun k hk h1 h2 => (setT_other a (by omega) t' b').trans (wr.block k hk h1 h2)⟩, lt⟩
  rcases m.own.2 with ⟨rfl, _⟩ | ⟨g', cap, cur, rfl, _, hgg, _⟩
  · simp [Value.ownBlock] at hq
  · simp only [Value.ownBlock, Option.some.injEq] at hq
    subst hq
    exact setT_other a (ne hgg (by decide)) t' b'
theorem BR.setT {bb : Value} (r : BR M a bb l) (hg : TX a g t b) (t' : Th) (b' : Value) : BR M (setT a g t' b') bb l := r.keep fun q hq => by
  obtain ⟨cs, hc⟩ := r.block hq
  refine setT_other a (fun e => ?_) t' b'
  subst e
  unfold TX at hg
  rw [hg] at hc
  simp at hc
theorem Did.after {W : World} (hb : Below w.heap.size w W) (d : Did B p v0 size zs st W a) : Did B p v0 size zs st w a :=
  Did.comp (v := v0) ⟨hb.os, hb.tape, hb.output, hb.size, fun k hk _ _ => hb.block k hk⟩ (Later.refl _ _) d
theorem BR.low {M' : Nat} {bb : Value} (r : BR M a bb l) (h : M' ≤ M) : BR M' a bb l := by
  refine ⟨r.1, ?_⟩
  rcases r.2 with hn | ⟨q, c, cur, e, hl, x⟩
  · exact .inl hn
  · exact .inr ⟨q, c, cur, e, Nat.le_trans h hl, x⟩
end

def StepS (w : World) (B p : Nat) (v0 : Value) (size : Int) (S : Sw) (l : List It3) (ao : Option Addr) (st : Int) (e : Ending) (w' : World) : Prop :=
  ∃ b', e = .returned (thV S.t b') ∧ BR w.heap.size w' b' l ∧ (ao = none → b' = .slice none 0 0) ∧ Did B p v0 size S.zs (st + S.c) w w'

set_option maxRecDepth 100000 in
set_option maxHeartbeats 16000000 in
theorem stepS (w : World) {B p : Nat} {v0 : Value} {size : Int} {zs : List Int} {st : Int} (m : Mem w B p v0 size zs st) (ag : Int) (t : Th) (ao : Option Addr) (n cap : Nat) (l : List It3) (h : Its w ao n l) (hc : ao = none → cap = 0) (hl : l.length ≤ 1000) (k0 : 0 ≤ st) (k1 : st < 1000000) :
    Calls Try.prog 26 #[.pointer (some ⟨p, 0, none⟩), .int .i64 ag, thV t (.slice ao n cap)] w (StepS w B p v0 size (swt ag t zs) l ao st) := by
  have hn : n ≤ 1000 := by have := h.1; omega
  have HM := Lib.hid m
  clear m
  have HV := Lib.hid (show thV t (.slice ao n cap) = .agg #[.int .i64 t.ti, .int .i64 t.pc, .int .i64 t.rc, .int .i64 t.sq, .int .i64 t.wo, .int .i64 t.lk, .int .i64 t.cu, .int .i64 t.pv, .int .i64 t.nt, .int .i64 t.mx, .int .i64 t.ps, .int .i64 t.rn, .slice ao n cap] from rfl)
  rw [HV.out]
  have H := Lib.hid h
  have HC := Lib.hid hc
  clear h hc
  go_enter Try.func26, Try.ntmps26
  go_upto_region 2 with (fail)
  generalize hW0 : (w.alloc (.cells #[.int .i64 t.ti, .int .i64 t.pc, .int .i64 t.rc, .int .i64 t.sq, .int .i64 t.wo, .int .i64 t.lk, .int .i64 t.cu, .int .i64 t.pv, .int .i64 t.nt, .int .i64 t.mx, .int .i64 t.ps, .int .i64 t.rn, .slice ao n cap] 25)) = W0
  have HX0 := TX.new w t (.slice ao n cap)
  rw [hW0] at HX0
  have hb0 : Below w.heap.size w W0 := by subst hW0; exact (Below.refl _ _).alloc (Nat.le_refl _) _
  have hs0 : W0.heap.size = w.heap.size + 1 := by subst hW0; simp
  generalize hW1 : W0.alloc (.cells #[.int .i64 0, .int .i64 0, .int .i64 0, .int .i64 0, .int .i64 0, .int .i64 0, .int .i64 0, .int .i64 0, .int .i64 0, .int .i64 0, .int .i64 0, .int .i64 0, .slice none 0 0] 25) = W1
  have HY1 : TX W1 (w.heap.size + 1) t0 (.slice none 0 0) := by
    have := TX.new W0 t0 (.slice none 0 0)
    rw [hs0] at this
    rw [← hW1]
    exact this
  have HX1 := HX0.keep (show Below W0.heap.size W0 W1 by subst hW1; exact (Below.refl _ _).alloc (Nat.le_refl _) _)
  have hb1 : Below w.heap.size w W1 := hb0.trans (by subst hW1; exact (Below.refl _ _).alloc (by omega) _)
  have hs1 : W1.heap.size = w.heap.size + 1 + 1 := by subst hW1; simp [hs0]
  generalize hW2 : W1.alloc (.cells #[.int .i64 t.ti, .int .i64 t.pc, .int .i64 t.rc, .int .i64 t.sq, .int .i64 t.wo, .int .i64 t.lk, .int .i64 t.cu, .int .i64 t.pv, .int .i64 t.nt, .int .i64 t.mx, .int .i64 t.ps, .int .i64 t.rn, .slice ao n cap, .pointer (some ⟨p, 0, none⟩), .int .i64 ag] 90) = W2
  have HT2 : TC W2 (w.heap.size + 1 + 1) p t (.slice ao n cap) ag := by rw [← hs1]; subst hW2; exact TC.new W1 p t _ ag
  have hb12 : Below W1.heap.size W1 W2 := by subst hW2; exact (Below.refl _ _).alloc (Nat.le_refl _) _
  have HX2 := HX1.keep hb12
  have hb2 : Below w.heap.size w W2 := hb1.trans (hb12.mono (by omega))
  have hs2 : W2.heap.size = w.heap.size + 3 := by subst hW2; simp [hs1]
  have HB1 := Lib.hid hb1
  have HS1 := Lib.hid hs1
  have HB12 := Lib.hid hb12
  have HS2 := Lib.hid hs2
  have HY := Lib.hid HY1
  have HX := Lib.hid HX2
  have HT := Lib.hid HT2
  have C := cloneR W2 ao n cap l (H.out.keep hb2) (by omega) HC.out
  have c12 := HX2.c12
  clear hW0 hW1 hW2 HX0 hb0 hs0 HY1 HX1 hb1 hs1 HT2 hb12 HX2 hb2 hs2
  go_wp2_with fail
  with_reducible refine C.mono ?_
  clear C c12
  rintro e w3 ⟨v, rfl, br, b3, bn⟩
  have HBN := Lib.hid bn
  clear bn
  obtain ⟨av, cv, rfl, _⟩ := br.its
  have HT3 := (b3.block (w.heap.size + 1 + 1) HT.out.lt).trans HT.out
  have HT3 : TC w3 (w.heap.size + 1 + 1) p t (.slice ao n cap) ag := HT3
  have HT4 := HT3.s12 (.slice av l.length cv)
  have hne : ∀ q, q ≠ w.heap.size + 1 + 1 → (w3.setCell ⟨w.heap.size + 1 + 1, 12, none⟩ (.slice av l.length cv)).heap[q]? = w3.heap[q]? := fun q hq => Below.heap_setCell _ _ _ _ hq
  have lt4 : ∀ q, (Value.slice av l.length cv).ownBlock = some q → q ≠ w.heap.size + 1 + 1 := fun q hq => by have := (br.lt q hq).1; have := HS1.out; have := HS2.out; omega
  have BR4 := br.keep (w' := w3.setCell ⟨w.heap.size + 1 + 1, 12, none⟩ (.slice av l.length cv)) (fun q hq => hne q (lt4 q hq))
  have hb14 : Below W1.heap.size W1 (w3.setCell ⟨w.heap.size + 1 + 1, 12, none⟩ (.slice av l.length cv)) := (HB12.out.trans (b3.mono (by have := HS1.out; have := HS2.out; omega))).setCell (by have := HS1.out; exact Nat.le_of_eq this) _
  have HX4 : TX (w3.setCell ⟨w.heap.size + 1 + 1, 12, none⟩ (.slice av l.length cv)) w.heap.size t (.slice ao n cap) := ((hne _ (by have := HS1.out; omega)).trans (b3.block _ HX.out.lt)).trans HX.out
  have d12 := HT3.c12
  have df := HT3.f
  have HX3 : TX w3 w.heap.size t (.slice ao n cap) := (b3.block _ HX.out.lt).trans HX.out
  have HSV := Lib.hid (And.intro HT4 (And.intro BR4 (And.intro hb14 HX4)))
  have HX3' := Lib.hid HX3
  have sz4 : W2.heap.size ≤ w3.heap.size := b3.size
  have HZ4 := Lib.hid sz4
  clear HT3 HT4 hne lt4 BR4 hb14 HX4 HX3 b3 br sz4
  go_upto_region 3 with (fail)
  obtain ⟨w4, hw4⟩ : ∃ w4, w4 = w3.setCell ⟨w.heap.size + 1 + 1, 12, none⟩ (.slice av l.length cv) := ⟨_, rfl⟩
  have hsz : w4.heap.size = w3.heap.size := by rw [hw4]; simp [World.setCell]
  rw [← hw4] at HSV ⊢
  have HSZ := Lib.hid (show W2.heap.size ≤ w4.heap.size by rw [hsz]; exact HZ4.out)
  clear hw4 d12 df hsz HZ4 HX3'
  have A := sweepsO w4 t (.slice ao n cap) ⟨_, _, _, rfl⟩
  rw [HV.out] at A
  have HA := Lib.hid A
  have x := HSV.out.2.2.2
  have c0 := x.c0
  have c1 := x.c1
  have c2 := x.c2
  have c3 := x.c3
  have c4 := x.c4
  have c5 := x.c5
  have c6 := x.c6
  have c7 := x.c7
  have c8 := x.c8
  have c9 := x.c9
  have c10 := x.c10
  have c11 := x.c11
  have c12 := x.c12
  clear A x
  go_wp2_with fail
  with_reducible refine HA.out.mono ?_
  clear HA c0 c1 c2 c3 c4 c5 c6 c7 c8 c9 c10 c11 c12
  rintro e w5 ⟨rfl, b5⟩
  have H5 : CM W1 W2.heap.size B p (w.heap.size + 1 + 1) v0 size t (.slice av l.length cv) ag l zs st w5 := by
    obtain ⟨t4, r4, b14, x4⟩ := HSV.out
    have m1 := HM.out.fresh HB1.out
    have c : CM W1 W2.heap.size B p (w.heap.size + 1 + 1) v0 size t (.slice av l.length cv) ag l zs st w4 :=
      ⟨t4, ⟨v0, m1.fresh b14, ⟨b14.os, b14.tape, b14.output, b14.size, fun k hk _ _ => b14.block k hk⟩, Later.refl _ _⟩, Nat.le_of_eq HS1.out, r4, HSZ.out⟩
    exact c.fresh b5
  have H5' := Lib.hid H5
  clear H5 b5 HSV
  by_cases hs : 40 ≤ t.pc ∧ t.pc ≤ 48
  · rw [decide_eq_true hs]
    have C := Lib.hid (actS H5'.out hs k0 k1)
    clear hs
    go_wp2_with fail
    with_reducible refine C.out.mono ?_
    clear C
    rintro e w6 ⟨rfl, h6⟩
    have H6 := Lib.hid h6
    clear h6 H5'
    obtain ⟨S, hS⟩ : ∃ S, swt ag t zs = S := ⟨_, rfl⟩
    rw [hS] at H6
    have HSE := Lib.hid hS
    clear hS
    have HY6 := Lib.hid (show TX w6 (w.heap.size + 1) t0 (.slice none 0 0) by
      obtain ⟨u, m6, wr6, lt6⟩ := H6.out.did
      have m1 := HM.out
      exact (wr6.block _ (by have := HS1.out; omega) (fun e => by have := m1.lt; omega) (fun e => by have := (m1.rowLt e).2; omega)).trans HY.out)
    have HBX := Lib.hid H6.out.box
    have x := HBX.out
    have c0 := x.c0
    have c1 := x.c1
    have c2 := x.c2
    have c3 := x.c3
    have c4 := x.c4
    have c5 := x.c5
    have c6 := x.c6
    have c7 := x.c7
    have c8 := x.c8
    have c9 := x.c9
    have c10 := x.c10
    have c11 := x.c11
    have c12 := x.c12
    have y := HY6.out
    have yf := y.f
    have r0 := y.c0
    have r1 := y.c1
    have r2 := y.c2
    have r3 := y.c3
    have r4 := y.c4
    have r5 := y.c5
    have r6 := y.c6
    have r7 := y.c7
    have r8 := y.c8
    have r9 := y.c9
    have r10 := y.c10
    have r11 := y.c11
    have r12 := y.c12
    have hne : ¬ w.heap.size + 1 + 1 = w.heap.size + 1 := by omega
    clear x y
    go_wp2
    change bodyPost _ _ _ _ _ (setT w6 (w.heap.size + 1) S.t (.slice av l.length cv))
    have Z := HY6.out.all S.t (.slice av l.length cv)
    have HZ := Lib.hid (HY6.out)
    clear r0 r1 r2 r3 r4 r5 r6 r7 r8 r9 r10 r11 r12 c0 c1 c2 c3 c4 c5 c6 c7 c8 c9 c10 c11 c12 yf
    refine bodyPost_ret (v := thV S.t (.slice av l.length cv)) (by simp [results, Try.results26, go_sem, thV, Z.c0, Z.c1, Z.c2, Z.c3, Z.c4, Z.c5, Z.c6, Z.c7, Z.c8, Z.c9, Z.c10, Z.c11, Z.c12]) rfl ?_
    refine ⟨.slice av l.length cv, by rw [HSE.out], ?_, HBN.out, ?_⟩
    · exact ((H6.out.row.low (by have := HS2.out; omega)).setT HZ.out S.t (.slice av l.length cv))
    · rw [HSE.out]
      exact ((Did.after HB1.out H6.out.did).setT HZ.out (Nat.le_succ _) S.t (.slice av l.length cv))

  · rw [decide_eq_false hs]
    obtain ⟨w6, hw6⟩ : ∃ w6, w6 = w5 := ⟨_, rfl⟩
    have h6 : CM W1 W2.heap.size B p (w.heap.size + 1 + 1) v0 size (swt ag t zs).t (.slice av l.length cv) ag l (swt ag t zs).zs (st + (swt ag t zs).c) w6 := by
      rw [swt0 ag t zs hs, hw6]
      simpa using H5'.out
    rw [← hw6]
    have H6 := Lib.hid h6
    clear h6 H5' hs hw6
    obtain ⟨S, hS⟩ : ∃ S, swt ag t zs = S := ⟨_, rfl⟩
    rw [hS] at H6
    have HSE := Lib.hid hS
    clear hS
    have HY6 := Lib.hid (show TX w6 (w.heap.size + 1) t0 (.slice none 0 0) by
      obtain ⟨u, m6, wr6, lt6⟩ := H6.out.did
      have m1 := HM.out
      exact (wr6.block _ (by have := HS1.out; omega) (fun e => by have := m1.lt; omega) (fun e => by have := (m1.rowLt e).2; omega)).trans HY.out)
    have HBX := Lib.hid H6.out.box
    have x := HBX.out
    have c0 := x.c0
    have c1 := x.c1
    have c2 := x.c2
    have c3 := x.c3
    have c4 := x.c4
    have c5 := x.c5
    have c6 := x.c6
    have c7 := x.c7
    have c8 := x.c8
    have c9 := x.c9
    have c10 := x.c10
    have c11 := x.c11
    have c12 := x.c12
    have y := HY6.out
    have yf := y.f
    have r0 := y.c0
    have r1 := y.c1
    have r2 := y.c2
    have r3 := y.c3
    have r4 := y.c4
    have r5 := y.c5
    have r6 := y.c6
    have r7 := y.c7
    have r8 := y.c8
    have r9 := y.c9
    have r10 := y.c10
    have r11 := y.c11
    have r12 := y.c12
    have hne : ¬ w.heap.size + 1 + 1 = w.heap.size + 1 := by omega
    clear x y
    go_wp2
    change bodyPost _ _ _ _ _ (setT w6 (w.heap.size + 1) S.t (.slice av l.length cv))
    have Z := HY6.out.all S.t (.slice av l.length cv)
    have HZ := Lib.hid (HY6.out)
    clear r0 r1 r2 r3 r4 r5 r6 r7 r8 r9 r10 r11 r12 c0 c1 c2 c3 c4 c5 c6 c7 c8 c9 c10 c11 c12 yf
    refine bodyPost_ret (v := thV S.t (.slice av l.length cv)) (by simp [results, Try.results26, go_sem, thV, Z.c0, Z.c1, Z.c2, Z.c3, Z.c4, Z.c5, Z.c6, Z.c7, Z.c8, Z.c9, Z.c10, Z.c11, Z.c12]) rfl ?_
    refine ⟨.slice av l.length cv, by rw [HSE.out], ?_, HBN.out, ?_⟩
    · exact ((H6.out.row.low (by have := HS2.out; omega)).setT HZ.out S.t (.slice av l.length cv))
    · rw [HSE.out]
      exact ((Did.after HB1.out H6.out.did).setT HZ.out (Nat.le_succ _) S.t (.slice av l.length cv))


end Go.Proofs.Ytfnjbbokbdddpaa.M2
namespace Go.Proofs.Ytfnjbbokbdddpaa.M2
open Go.RowKit

def thN (t : Th) : Value := .agg #[.int .i64 t.ti, .int .i64 t.pc, .int .i64 t.rc, .int .i64 t.sq, .int .i64 t.wo, .int .i64 t.lk, .int .i64 t.cu, .int .i64 t.pv, .int .i64 t.nt, .int .i64 t.mx, .int .i64 t.ps, .int .i64 t.rn, .slice none 0 0]
theorem thN_eq (t : Th) : thV t (.slice none 0 0) = thN t := rfl

section
variable {w : World} {B p : Nat} {size : Int} {zs : List Int} {st : Int}
theorem stepM {v0 : Value} (m : Mem w B p v0 size zs st) (ag : Int) (t : Th) (k0 : 0 ≤ st) (k1 : st < 1000000) :
    Calls Try.prog 26 #[.pointer (some ⟨p, 0, none⟩), .int .i64 ag, thN t] w fun e w' => e = .returned (thN (swt ag t zs).t) ∧ Did B p v0 size (swt ag t zs).zs (st + (swt ag t zs).c) w w' := by
  rw [← thN_eq]
  refine (stepS w m ag t none 0 0 [] (Its.zero w none) (fun _ => rfl) (by simp) k0 k1).mono ?_
  rintro e w' ⟨b', rfl, _, n0, d⟩
  rw [n0 rfl]
  exact ⟨rfl, d⟩

theorem stepK (h : Mem1 w B p size zs st) (ag : Int) (t : Th) (k0 : 0 ≤ st) (k1 : st < 1000000) :
    Calls Try.prog 26 #[.pointer (some ⟨p, 0, none⟩), .int .i64 ag, thN t] w fun e w' => e = .returned (thN (swt ag t zs).t) ∧ Mem1 w' B p size (swt ag t zs).zs (st + (swt ag t zs).c) ∧ Below B w w' ∧ Kept w w' := by
  obtain ⟨v0, m⟩ := h
  exact (stepM m ag t k0 k1).mono fun e w' ⟨he, d⟩ => ⟨he, (d.one m).1, (d.one m).2, d.kept m⟩
end

theorem sweepsN (w : World) (t : Th) : Calls Try.prog 24 #[thN t] w fun e w' => e = .returned (.bool (decide (40 ≤ t.pc ∧ t.pc ≤ 48))) ∧ Below w.heap.size w w' := by
  rw [← thN_eq]
  exact sweepsO w t _ ⟨_, _, _, rfl⟩

theorem TX.off {w w' : World} {g : Nat} {t : Th} {b : Value} (h : TX w g t b) (k : Kept w w') : TX w' g t b := k _ _ _ h (by decide) (by decide)
theorem Mem1.setT {w : World} {B p : Nat} {size : Int} {zs : List Int} {st : Int} (h : Mem1 w B p size zs st) {g : Nat} {t0 : Th} {b0 : Value} (hx : TX w g t0 b0) (t : Th) (b : Value) : Mem1 (setT w g t b) B p size zs st := by
  obtain ⟨v, m⟩ := h
  refine ⟨v, m.keep (setT_other w ?_ t b) (fun k hk => setT_other w ?_ t b)⟩
  · intro e
    have e1 := m.block
    unfold TX at hx
    rw [e, hx] at e1
    simp at e1
  · intro e
    subst e
    rcases m.own.2 with ⟨rfl, _⟩ | ⟨g', cap, cur, rfl, _, hg', _⟩
    · simp [Value.ownBlock] at hk
    · simp only [Value.ownBlock, Option.some.injEq] at hk
      subst hk
      unfold TX at hx
      rw [hx] at hg'
      simp at hg'

end Go.Proofs.Ytfnjbbokbdddpaa.M2
namespace Go.Proofs.Ytfnjbbokbdddpaa.M2
open Go.RowKit Go.Shelf

end Go.Proofs.Ytfnjbbokbdddpaa.M2
namespace Go.Proofs.Ytfnjbbokbdddpaa.M2
open Go.RowKit

def vAt (zs : List Int) (ps : List Nat) (k : Nat) : Int := if k = 0 then zs.getD 1 0 else zs.getD (ps.getD (k - 1) 0 + 3) 0

structure Path (zs : List Int) (ps : List Nat) (lost : Bool) : Prop where
  len : ps.length ≤ mn zs.length
  step : ∀ k, k < ps.length → vAt zs ps k = ((ps.getD k 0 : Nat) : Int)
  isr : ∀ k, k < ps.length → ∃ j, j < mn zs.length ∧ ps.getD k 0 = 3 + 5 * j
  new : ∀ k, k < ps.length → ps.getD k 0 ∉ ps.take k
  fin : lost = false → vAt zs ps ps.length = 0
  big : vAt zs ps ps.length ≤ 9223372036854775807
  bad : lost = true → vAt zs ps ps.length ≠ 0 ∧ ((∀ j : Nat, j < mn zs.length → vAt zs ps ps.length ≠ 3 + 5 * (j : Int)) ∨ ∃ j, j < mn zs.length ∧ 3 + 5 * j ∈ ps ∧ vAt zs ps ps.length = 3 + 5 * (j : Int))

end Go.Proofs.Ytfnjbbokbdddpaa.M2
namespace Go.Proofs.Ytfnjbbokbdddpaa.M2
open Go.RowKit

section
variable {w : World} {B p : Nat} {size : Int} {zs : List Int} {st : Int}

set_option maxRecDepth 100000 in
set_option maxHeartbeats 1600000 in
end

section
variable {W W' : World} {wb p mb : Nat} {lost : Bool}
end

def oldB (z0 z1 z2 pass age : Int) : Bool := decide (z1 = 1) && (decide (z0 = 0) && decide (age < wrap64 (pass - z2)))

end Go.Proofs.Ytfnjbbokbdddpaa.M2
namespace Go.Proofs.Ytfnjbbokbdddpaa.M2
open Go.RowKit Go.Shelf

attribute [local go_sem] Oper.semAt_some

theorem take_next {ps : List Nat} {k : Nat} (h : k < ps.length) : ps.take (k + 1) = ps.take k ++ [ps.getD k 0] := by
  rw [List.take_succ_eq_append_getElem h]; simp [List.getD, h]

section
variable {w : World} {B p wb mb : Nat} {size st : Int} {zs : List Int} {ps : List Nat} {lost : Bool}

end

end Go.Proofs.Ytfnjbbokbdddpaa.M2
namespace Go.Proofs.Ytfnjbbokbdddpaa.M2
open Go.RowKit Go.Shelf

attribute [local go_sem] Oper.semAt_some

section
variable {w : World} {B p cb : Nat} {size st : Int} {zs : List Int}

end

end Go.Proofs.Ytfnjbbokbdddpaa.M2
namespace Go.Proofs.Ytfnjbbokbdddpaa.M2
open Go.RowKit Go.Shelf

theorem infoInt : (Try.prog.info? 3).map (fun i => (i.zero, i.size, i.bytes)) = some (some (.int .i64 0), 1, 8) := by kernel_rfl

def LB (n lb : Nat) (xs : List Int) (W : World) : Prop := ∃ v, Go.Boxed W lb 34 v ∧ W.ownsRow n 3 1 v xs.length (xs.map (Value.int .i64))
section
variable {w A A' W W' : World} {n lb s : Nat} {xs : List Int} {F : Nat → Prop}
theorem LB.row {v : Value} (h : W.ownsRow n 3 1 v xs.length (xs.map (Value.int .i64))) (g : Nat) (hg : v.ownBlock = some g) : ∃ cs, W.heap[g]? = some (Obj.cells cs 3 (0, 0)) ∧ n ≤ g := by
  rcases h.2 with ⟨rfl, _⟩ | ⟨g', cap, cur, rfl, hb, hg', _⟩
  · simp [Value.ownBlock] at hg
  · simp only [Value.ownBlock, Option.some.injEq] at hg
    subst hg
    exact ⟨_, hg', hb⟩

end

def IntsNew (w : World) (zs : List Int) (v : Value) (w' : World) : Prop := ∃ ao cap, v = .slice ao zs.length cap ∧ Reads .i64 w' ao zs.length zs ∧ Below w.heap.size w w'

theorem IntsNew.of {w W : World} {n : Nat} {v : Value} {xs : List Int} (h : W.ownsRow n 3 1 v xs.length (xs.map (Value.int .i64))) (hb : Below w.heap.size w W) : IntsNew w xs v W := by
  obtain ⟨ao, cap, rfl, hr, _, _⟩ := _root_.Go.Proofs.Ytfnjbbokbdddpaa.reads_own h
  exact ⟨ao, cap, rfl, hr, hb⟩
theorem IntsNew.nil (w : World) {W : World} (hb : Below w.heap.size w W) : IntsNew w [] (.slice none 0 0) W := ⟨none, 0, rfl, ⟨rfl, fun h => by simp at h⟩, hb⟩

def ints (ps : List Nat) : List Int := ps.map fun a : Nat => (a : Int)
theorem ints_len (ps : List Nat) : (ints ps).length = ps.length := by simp [ints]
theorem ints_next {ps : List Nat} {k : Nat} (h : k < ps.length) : ints (ps.take k) ++ [((ps.getD k 0 : Nat) : Int)] = ints (ps.take (k + 1)) := by rw [take_next h]; simp [ints]

end Go.Proofs.Ytfnjbbokbdddpaa.M2
