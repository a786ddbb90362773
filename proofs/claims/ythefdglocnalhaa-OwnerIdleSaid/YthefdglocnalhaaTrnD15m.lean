/-
  What act of a turn (package owner) does at each place: an array of method values, of which one is called. Conditions: a turn beside its memory, as TM says; steps below a million.
-/
import Derived.Test.YthefdglocnalhaaTrnG15
import Derived.Laws.EntriesVeiled
namespace Go.Proofs.Ythefdglocnalhaa.M2
open Go.RowKit

/-- The array of method values in a block. -/
def FA (W : World) (g N : Nat) : Prop := W.heap[g]? = some (.cells #[.nilFunc, .func (.func 61) #[.pointer (some ⟨N, 0, none⟩)] #[], .func (.func 62) #[.pointer (some ⟨N, 0, none⟩)] #[], .func (.func 63) #[.pointer (some ⟨N, 0, none⟩)] #[], .func (.func 64) #[.pointer (some ⟨N, 0, none⟩)] #[], .func (.func 65) #[.pointer (some ⟨N, 0, none⟩)] #[], .func (.func 66) #[.pointer (some ⟨N, 0, none⟩)] #[], .func (.func 67) #[.pointer (some ⟨N, 0, none⟩)] #[], .func (.func 68) #[.pointer (some ⟨N, 0, none⟩)] #[], .func (.func 69) #[.pointer (some ⟨N, 0, none⟩)] #[], .func (.func 70) #[.pointer (some ⟨N, 0, none⟩)] #[], .func (.func 71) #[.pointer (some ⟨N, 0, none⟩)] #[], .func (.func 72) #[.pointer (some ⟨N, 0, none⟩)] #[], .func (.func 73) #[.pointer (some ⟨N, 0, none⟩)] #[], .func (.func 74) #[.pointer (some ⟨N, 0, none⟩)] #[], .func (.func 75) #[.pointer (some ⟨N, 0, none⟩)] #[], .func (.func 76) #[.pointer (some ⟨N, 0, none⟩)] #[]] 111 (0, 0))
theorem FA.c1 {W : World} {g N : Nat} (h : FA W g N) : W.cell? ⟨g, 1, none⟩ = some (.func (.func 61) #[.pointer (some ⟨N, 0, none⟩)] #[]) := by unfold FA at h; simp [World.cell?, h]
theorem FA.c2 {W : World} {g N : Nat} (h : FA W g N) : W.cell? ⟨g, 2, none⟩ = some (.func (.func 62) #[.pointer (some ⟨N, 0, none⟩)] #[]) := by unfold FA at h; simp [World.cell?, h]
theorem FA.c3 {W : World} {g N : Nat} (h : FA W g N) : W.cell? ⟨g, 3, none⟩ = some (.func (.func 63) #[.pointer (some ⟨N, 0, none⟩)] #[]) := by unfold FA at h; simp [World.cell?, h]
theorem FA.c4 {W : World} {g N : Nat} (h : FA W g N) : W.cell? ⟨g, 4, none⟩ = some (.func (.func 64) #[.pointer (some ⟨N, 0, none⟩)] #[]) := by unfold FA at h; simp [World.cell?, h]
theorem FA.c5 {W : World} {g N : Nat} (h : FA W g N) : W.cell? ⟨g, 5, none⟩ = some (.func (.func 65) #[.pointer (some ⟨N, 0, none⟩)] #[]) := by unfold FA at h; simp [World.cell?, h]
theorem FA.c6 {W : World} {g N : Nat} (h : FA W g N) : W.cell? ⟨g, 6, none⟩ = some (.func (.func 66) #[.pointer (some ⟨N, 0, none⟩)] #[]) := by unfold FA at h; simp [World.cell?, h]
theorem FA.c7 {W : World} {g N : Nat} (h : FA W g N) : W.cell? ⟨g, 7, none⟩ = some (.func (.func 67) #[.pointer (some ⟨N, 0, none⟩)] #[]) := by unfold FA at h; simp [World.cell?, h]
theorem FA.c8 {W : World} {g N : Nat} (h : FA W g N) : W.cell? ⟨g, 8, none⟩ = some (.func (.func 68) #[.pointer (some ⟨N, 0, none⟩)] #[]) := by unfold FA at h; simp [World.cell?, h]
theorem FA.c9 {W : World} {g N : Nat} (h : FA W g N) : W.cell? ⟨g, 9, none⟩ = some (.func (.func 69) #[.pointer (some ⟨N, 0, none⟩)] #[]) := by unfold FA at h; simp [World.cell?, h]
theorem FA.c10 {W : World} {g N : Nat} (h : FA W g N) : W.cell? ⟨g, 10, none⟩ = some (.func (.func 70) #[.pointer (some ⟨N, 0, none⟩)] #[]) := by unfold FA at h; simp [World.cell?, h]
theorem FA.c11 {W : World} {g N : Nat} (h : FA W g N) : W.cell? ⟨g, 11, none⟩ = some (.func (.func 71) #[.pointer (some ⟨N, 0, none⟩)] #[]) := by unfold FA at h; simp [World.cell?, h]
theorem FA.c12 {W : World} {g N : Nat} (h : FA W g N) : W.cell? ⟨g, 12, none⟩ = some (.func (.func 72) #[.pointer (some ⟨N, 0, none⟩)] #[]) := by unfold FA at h; simp [World.cell?, h]
theorem FA.c13 {W : World} {g N : Nat} (h : FA W g N) : W.cell? ⟨g, 13, none⟩ = some (.func (.func 73) #[.pointer (some ⟨N, 0, none⟩)] #[]) := by unfold FA at h; simp [World.cell?, h]
theorem FA.c14 {W : World} {g N : Nat} (h : FA W g N) : W.cell? ⟨g, 14, none⟩ = some (.func (.func 74) #[.pointer (some ⟨N, 0, none⟩)] #[]) := by unfold FA at h; simp [World.cell?, h]
theorem FA.c15 {W : World} {g N : Nat} (h : FA W g N) : W.cell? ⟨g, 15, none⟩ = some (.func (.func 75) #[.pointer (some ⟨N, 0, none⟩)] #[]) := by unfold FA at h; simp [World.cell?, h]
theorem FA.c16 {W : World} {g N : Nat} (h : FA W g N) : W.cell? ⟨g, 16, none⟩ = some (.func (.func 76) #[.pointer (some ⟨N, 0, none⟩)] #[]) := by unfold FA at h; simp [World.cell?, h]

/-- What a step tells at each place. -/
theorem stp1 (size : Int) (t : Th) (zs : List Int) (h : t.pc = 1) : stp size t zs = ⟨{ t with rc := fk (rm size zs) (alA size zs) t.rc, pc := fk (rm size zs) 2 1 }, alZ size zs, alC size zs, 0, 0, false⟩ := by
  unfold stp
  simp only [h]
  simp
theorem stp2 (size : Int) (t : Th) (zs : List Int) (h : t.pc = 2) : stp size t zs = ⟨{ t with pc := fk (swb zs t.rc 0) 5 3 }, swp zs t.rc 0 t.wo, cn zs t.rc, 0, 0, false⟩ := by
  unfold stp
  simp only [h]
  simp
theorem stp3 (size : Int) (t : Th) (zs : List Int) (h : t.pc = 3) : stp size t zs = ⟨{ t with lk := ld zs (ad t.rc 1), pc := fk (ld zs (ad t.rc 1) == 0) 4 3 }, zs, cn zs (ad t.rc 1), 0, 0, false⟩ := by
  unfold stp
  simp only [h]
  simp
theorem stp4 (size : Int) (t : Th) (zs : List Int) (h : t.pc = 4) : stp size t zs = ⟨{ t with pc := 5 }, sto zs t.rc t.wo, cn zs t.rc, 0, 0, false⟩ := by
  unfold stp
  simp only [h]
  simp
theorem stp5 (size : Int) (t : Th) (zs : List Int) (h : t.pc = 5) : stp size t zs = ⟨{ t with lk := ld zs (ad t.rc 1), pc := fk (ld zs (ad t.rc 1) == 0) 6 11 }, zs, cn zs (ad t.rc 1), 0, 0, false⟩ := by
  unfold stp
  simp only [h]
  simp
theorem stp6 (size : Int) (t : Th) (zs : List Int) (h : t.pc = 6) : stp size t zs = ⟨{ t with pc := fk (swb zs (ad t.rc 1) 0) 15 11 }, swp zs (ad t.rc 1) 0 2, cn zs (ad t.rc 1), 0, 0, false⟩ := by
  unfold stp
  simp only [h]
  simp
theorem stp7 (size : Int) (t : Th) (zs : List Int) (h : t.pc = 7) : stp size t zs = ⟨{ t with lk := ld zs 1, pc := 8 }, zs, cn zs 1, 0, 0, false⟩ := by
  unfold stp
  simp only [h]
  simp
theorem stp8 (size : Int) (t : Th) (zs : List Int) (h : t.pc = 8) : stp size t zs = ⟨{ t with pc := 9 }, sto zs (ad t.rc 3) t.lk, cn zs (ad t.rc 3), 0, 0, false⟩ := by
  unfold stp
  simp only [h]
  simp
theorem stp9 (size : Int) (t : Th) (zs : List Int) (h : t.pc = 9) : stp size t zs = ⟨{ t with lk := fk (swb zs 1 t.lk) 1 0, pc := 10 }, swp zs 1 t.lk t.rc, cn zs 1, 0, 0, false⟩ := by
  unfold stp
  simp only [h]
  simp
theorem stp10 (size : Int) (t : Th) (zs : List Int) (h : t.pc = 10) : stp size t zs = ⟨{ t with pc := 11 }, sto zs (ad t.rc 1) t.lk, cn zs (ad t.rc 1), 0, 0, false⟩ := by
  unfold stp
  simp only [h]
  simp
theorem stp11 (size : Int) (t : Th) (zs : List Int) (h : t.pc = 11) : stp size t zs = ⟨{ t with lk := ld zs t.rc, pc := fk (ld zs t.rc == t.wo) 12 14 }, zs, cn zs t.rc, 0, 0, false⟩ := by
  unfold stp
  simp only [h]
  simp
theorem stp12 (size : Int) (t : Th) (zs : List Int) (h : t.pc = 12) : stp size t zs = ⟨{ t with lk := ld zs 0, pc := fk (ld zs 0 == 0) 13 11 }, zs, cn zs 0, 0, 0, false⟩ := by
  unfold stp
  simp only [h]
  simp
theorem stp13 (size : Int) (t : Th) (zs : List Int) (h : t.pc = 13) : stp size t zs = ⟨{ t with pc := fk (swb zs 0 0) 20 11, rn := fk (swb zs 0 0) 0 t.rn }, swp zs 0 0 (ad t.ti 1), cn zs 0, 0, 0, false⟩ := by
  unfold stp
  simp only [h]
  simp
theorem stp14 (size : Int) (t : Th) (zs : List Int) (h : t.pc = 14) : stp size t zs = ⟨{ t with lk := ld zs (ad t.rc 4), wo := 0, pc := 0 }, zs, cn zs (ad t.rc 4), rK (ld zs (ad t.rc 4)), rV (ld zs (ad t.rc 4)), true⟩ := by
  unfold stp
  simp only [h]
  simp
theorem stp15 (size : Int) (t : Th) (zs : List Int) (h : t.pc = 15) : stp size t zs = ⟨{ t with lk := ld zs t.rc, pc := fk (ld zs t.rc == t.wo) 7 16 }, zs, cn zs t.rc, 0, 0, false⟩ := by
  unfold stp
  simp only [h]
  simp
theorem stp16 (size : Int) (t : Th) (zs : List Int) (h : t.pc = 16) : stp size t zs = ⟨{ t with pc := 11 }, sto zs (ad t.rc 1) 0, cn zs (ad t.rc 1), 0, 0, false⟩ := by
  unfold stp
  simp only [h]
  simp
theorem stp0 (size : Int) (t : Th) (zs : List Int) (h : t.pc < 1 ∨ 16 < t.pc) : stp size t zs = ⟨t, zs, 0, 0, 0, false⟩ := by
  unfold stp
  simp only [show ¬ t.pc = 1 by omega, show ¬ t.pc = 2 by omega, show ¬ t.pc = 3 by omega, show ¬ t.pc = 4 by omega, show ¬ t.pc = 5 by omega, show ¬ t.pc = 6 by omega, show ¬ t.pc = 7 by omega, show ¬ t.pc = 8 by omega, show ¬ t.pc = 9 by omega, show ¬ t.pc = 10 by omega, show ¬ t.pc = 11 by omega, show ¬ t.pc = 12 by omega, show ¬ t.pc = 13 by omega, show ¬ t.pc = 14 by omega, show ¬ t.pc = 15 by omega, show ¬ t.pc = 16 by omega, if_false]

section
variable {w0 w : World} {B p N : Nat} {v0 : Value} {size : Int} {t : Th} {b : Value} {zs : List Int} {st : Int}

set_option maxRecDepth 100000 in
set_option maxHeartbeats 16000000 in
theorem actT (h : TM w0 B p N v0 size t b 0 0 false zs st w) (hr : ad t.rc 0 = t.rc) (hp : 1 ≤ t.pc ∧ t.pc ≤ 16) (k0 : 0 ≤ st) (k1 : st < 1000000) : Calls Try.prog 45 #[.pointer (some ⟨N, 0, none⟩)] w fun e w' => e = .returned (.tuple #[]) ∧ TM w0 B p N v0 size (stp size t zs).t b (stp size t zs).k (stp size t zs).v (stp size t zs).d (stp size t zs).zs (st + (stp size t zs).c) w' := by
  have hmf : ∀ (fn : Fn) (first cap : Array Value) (w : World), (Instr.makeFunc fn first cap).run Try.prog w = .ok (.func fn first cap) w := fun _ _ _ _ => rfl
  have H := Lib.hid h
  have HP := Lib.hid hp
  have HR := Lib.hid hr
  clear h hp hr
  go_enter Try.func45, Try.ntmps45
  go_upto_region 1 with (fail)
  generalize hW : w.alloc (.cells #[.nilFunc, .func (.func 61) #[.pointer (some ⟨N, 0, none⟩)] #[], .func (.func 62) #[.pointer (some ⟨N, 0, none⟩)] #[], .func (.func 63) #[.pointer (some ⟨N, 0, none⟩)] #[], .func (.func 64) #[.pointer (some ⟨N, 0, none⟩)] #[], .func (.func 65) #[.pointer (some ⟨N, 0, none⟩)] #[], .func (.func 66) #[.pointer (some ⟨N, 0, none⟩)] #[], .func (.func 67) #[.pointer (some ⟨N, 0, none⟩)] #[], .func (.func 68) #[.pointer (some ⟨N, 0, none⟩)] #[], .func (.func 69) #[.pointer (some ⟨N, 0, none⟩)] #[], .func (.func 70) #[.pointer (some ⟨N, 0, none⟩)] #[], .func (.func 71) #[.pointer (some ⟨N, 0, none⟩)] #[], .func (.func 72) #[.pointer (some ⟨N, 0, none⟩)] #[], .func (.func 73) #[.pointer (some ⟨N, 0, none⟩)] #[], .func (.func 74) #[.pointer (some ⟨N, 0, none⟩)] #[], .func (.func 75) #[.pointer (some ⟨N, 0, none⟩)] #[], .func (.func 76) #[.pointer (some ⟨N, 0, none⟩)] #[]] 111) = W
  have HF := Lib.hid (show FA W w.heap.size N by subst hW; exact heap_alloc_new w _)
  have H1 := Lib.hid (H.out.fresh (show Below w.heap.size w W by subst hW; exact (Below.refl _ _).alloc (Nat.le_refl _) _))
  clear hW H hmf
  rcases (show t.pc = 1 ∨ t.pc = 2 ∨ t.pc = 3 ∨ t.pc = 4 ∨ t.pc = 5 ∨ t.pc = 6 ∨ t.pc = 7 ∨ t.pc = 8 ∨ t.pc = 9 ∨ t.pc = 10 ∨ t.pc = 11 ∨ t.pc = 12 ∨ t.pc = 13 ∨ t.pc = 14 ∨ t.pc = 15 ∨ t.pc = 16 from by have := HP.out; omega) with hp | hp | hp | hp | hp | hp | hp | hp | hp | hp | hp | hp | hp | hp | hp | hp
  · have c1 := H1.out.box.c1
    rw [hp] at c1
    have f1 := HF.out.c1
    have C := allocP H1.out hp k0 k1
    have HS := Lib.hid (stp1 size t zs hp)
    clear hp
    go_wp2_with fail
    refine C.mono ?_
    clear C f1
    rintro e w2 ⟨rfl, h2⟩
    have H2 := Lib.hid h2
    clear h2
    go_wp2
    go_end0
    refine ⟨rfl, ?_⟩
    rw [HS.out]
    exact H2.out
  · have c1 := H1.out.box.c1
    rw [hp] at c1
    have f1 := HF.out.c2
    have C := publishP H1.out HR.out k0 k1
    have HS := Lib.hid (stp2 size t zs hp)
    clear hp
    go_wp2_with fail
    refine C.mono ?_
    clear C f1
    rintro e w2 ⟨rfl, h2⟩
    have H2 := Lib.hid h2
    clear h2
    go_wp2
    go_end0
    refine ⟨rfl, ?_⟩
    rw [HS.out]
    exact H2.out
  · have c1 := H1.out.box.c1
    rw [hp] at c1
    have f1 := HF.out.c3
    have C := closedP H1.out k0 k1
    have HS := Lib.hid (stp3 size t zs hp)
    clear hp
    go_wp2_with fail
    refine C.mono ?_
    clear C f1
    rintro e w2 ⟨rfl, h2⟩
    have H2 := Lib.hid h2
    clear h2
    go_wp2
    go_end0
    refine ⟨rfl, ?_⟩
    rw [HS.out]
    exact H2.out
  · have c1 := H1.out.box.c1
    rw [hp] at c1
    have f1 := HF.out.c4
    have C := openP H1.out HR.out k0 k1
    have HS := Lib.hid (stp4 size t zs hp)
    clear hp
    go_wp2_with fail
    refine C.mono ?_
    clear C f1
    rintro e w2 ⟨rfl, h2⟩
    have H2 := Lib.hid h2
    clear h2
    go_wp2
    go_end0
    refine ⟨rfl, ?_⟩
    rw [HS.out]
    exact H2.out
  · have c1 := H1.out.box.c1
    rw [hp] at c1
    have f1 := HF.out.c5
    have C := checkP H1.out k0 k1
    have HS := Lib.hid (stp5 size t zs hp)
    clear hp
    go_wp2_with fail
    refine C.mono ?_
    clear C f1
    rintro e w2 ⟨rfl, h2⟩
    have H2 := Lib.hid h2
    clear h2
    go_wp2
    go_end0
    refine ⟨rfl, ?_⟩
    rw [HS.out]
    exact H2.out
  · have c1 := H1.out.box.c1
    rw [hp] at c1
    have f1 := HF.out.c6
    have C := claimP H1.out k0 k1
    have HS := Lib.hid (stp6 size t zs hp)
    clear hp
    go_wp2_with fail
    refine C.mono ?_
    clear C f1
    rintro e w2 ⟨rfl, h2⟩
    have H2 := Lib.hid h2
    clear h2
    go_wp2
    go_end0
    refine ⟨rfl, ?_⟩
    rw [HS.out]
    exact H2.out
  · have c1 := H1.out.box.c1
    rw [hp] at c1
    have f1 := HF.out.c7
    have C := frontP H1.out k0 k1
    have HS := Lib.hid (stp7 size t zs hp)
    clear hp
    go_wp2_with fail
    refine C.mono ?_
    clear C f1
    rintro e w2 ⟨rfl, h2⟩
    have H2 := Lib.hid h2
    clear h2
    go_wp2
    go_end0
    refine ⟨rfl, ?_⟩
    rw [HS.out]
    exact H2.out
  · have c1 := H1.out.box.c1
    rw [hp] at c1
    have f1 := HF.out.c8
    have C := nextP H1.out k0 k1
    have HS := Lib.hid (stp8 size t zs hp)
    clear hp
    go_wp2_with fail
    refine C.mono ?_
    clear C f1
    rintro e w2 ⟨rfl, h2⟩
    have H2 := Lib.hid h2
    clear h2
    go_wp2
    go_end0
    refine ⟨rfl, ?_⟩
    rw [HS.out]
    exact H2.out
  · have c1 := H1.out.box.c1
    rw [hp] at c1
    have f1 := HF.out.c9
    have C := linkP H1.out k0 k1
    have HS := Lib.hid (stp9 size t zs hp)
    clear hp
    go_wp2_with fail
    refine C.mono ?_
    clear C f1
    rintro e w2 ⟨rfl, h2⟩
    have H2 := Lib.hid h2
    clear h2
    go_wp2
    go_end0
    refine ⟨rfl, ?_⟩
    rw [HS.out]
    exact H2.out
  · have c1 := H1.out.box.c1
    rw [hp] at c1
    have f1 := HF.out.c10
    have C := markP H1.out k0 k1
    have HS := Lib.hid (stp10 size t zs hp)
    clear hp
    go_wp2_with fail
    refine C.mono ?_
    clear C f1
    rintro e w2 ⟨rfl, h2⟩
    have H2 := Lib.hid h2
    clear h2
    go_wp2
    go_end0
    refine ⟨rfl, ?_⟩
    rw [HS.out]
    exact H2.out
  · have c1 := H1.out.box.c1
    rw [hp] at c1
    have f1 := HF.out.c11
    have C := waitP H1.out HR.out k0 k1
    have HS := Lib.hid (stp11 size t zs hp)
    clear hp
    go_wp2_with fail
    refine C.mono ?_
    clear C f1
    rintro e w2 ⟨rfl, h2⟩
    have H2 := Lib.hid h2
    clear h2
    go_wp2
    go_end0
    refine ⟨rfl, ?_⟩
    rw [HS.out]
    exact H2.out
  · have c1 := H1.out.box.c1
    rw [hp] at c1
    have f1 := HF.out.c12
    have C := lockP H1.out k0 k1
    have HS := Lib.hid (stp12 size t zs hp)
    clear hp
    go_wp2_with fail
    refine C.mono ?_
    clear C f1
    rintro e w2 ⟨rfl, h2⟩
    have H2 := Lib.hid h2
    clear h2
    go_wp2
    go_end0
    refine ⟨rfl, ?_⟩
    rw [HS.out]
    exact H2.out
  · have c1 := H1.out.box.c1
    rw [hp] at c1
    have f1 := HF.out.c13
    have C := takeP H1.out k0 k1
    have HS := Lib.hid (stp13 size t zs hp)
    clear hp
    go_wp2_with fail
    refine C.mono ?_
    clear C f1
    rintro e w2 ⟨rfl, h2⟩
    have H2 := Lib.hid h2
    clear h2
    go_wp2
    go_end0
    refine ⟨rfl, ?_⟩
    rw [HS.out]
    exact H2.out
  · have c1 := H1.out.box.c1
    rw [hp] at c1
    have f1 := HF.out.c14
    have C := readP H1.out k0 k1
    have HS := Lib.hid (stp14 size t zs hp)
    clear hp
    go_wp2_with fail
    refine C.mono ?_
    clear C f1
    rintro e w2 ⟨rfl, h2⟩
    have H2 := Lib.hid h2
    clear h2
    go_wp2
    go_end0
    refine ⟨rfl, ?_⟩
    rw [HS.out]
    exact H2.out
  · have c1 := H1.out.box.c1
    rw [hp] at c1
    have f1 := HF.out.c15
    have C := sureP H1.out HR.out k0 k1
    have HS := Lib.hid (stp15 size t zs hp)
    clear hp
    go_wp2_with fail
    refine C.mono ?_
    clear C f1
    rintro e w2 ⟨rfl, h2⟩
    have H2 := Lib.hid h2
    clear h2
    go_wp2
    go_end0
    refine ⟨rfl, ?_⟩
    rw [HS.out]
    exact H2.out
  · have c1 := H1.out.box.c1
    rw [hp] at c1
    have f1 := HF.out.c16
    have C := dropP H1.out k0 k1
    have HS := Lib.hid (stp16 size t zs hp)
    clear hp
    go_wp2_with fail
    refine C.mono ?_
    clear C f1
    rintro e w2 ⟨rfl, h2⟩
    have H2 := Lib.hid h2
    clear h2
    go_wp2
    go_end0
    refine ⟨rfl, ?_⟩
    rw [HS.out]
    exact H2.out
end

end Go.Proofs.Ythefdglocnalhaa.M2
