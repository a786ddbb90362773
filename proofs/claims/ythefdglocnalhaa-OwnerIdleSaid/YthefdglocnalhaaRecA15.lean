/-
  Contracts of package record: Base, Open, Many, Nth. Conditions: a memory as Mem1 says. Contracts of package record: Nth, See (with the piece that becomes an array), Waits, Told. Conditions: a memory as Mem1 says. Contracts of package record: See (with the piece that becomes an array), Waits, Told. Conditions: a memory as Mem1 says.
-/
import Derived.Test.YthefdglocnalhaaMCel13
import Derived.Test.YthefdglocnalhaaMWor13
import Derived.Test.YthefdglocnalhaaMRef13
import Derived.Laws.Cover3
namespace Go.Proofs.Ythefdglocnalhaa.M2
open Go.RowKit

/-- A record's address; how many whole records so many cells have. -/
def bs (k : Int) : Int := if k < 0 then 0 else if 1000 < k then 0 else 3 + 5 * k
def mn (n : Nat) : Nat := (n - 3) / 5

theorem bs_in {k : Int} (h0 : 0 ≤ k) (h1 : k ≤ 1000) : bs k = 3 + 5 * k := by unfold bs; rw [if_neg (by omega), if_neg (by omega)]
theorem bs_low {k : Int} (h : k < 0) : bs k = 0 := by unfold bs; rw [if_pos h]
theorem bs_high {k : Int} (h : 1000 < k) : bs k = 0 := by unfold bs; rw [if_neg (by omega), if_pos h]

set_option maxRecDepth 100000 in
theorem baseAny (k : Int) (w : World) : Calls Try.prog 34 #[.int .i64 k] w fun e w' => e = .returned (.int .i64 (bs k)) ∧ w = w' := by
  rcases (show k < 0 ∨ 1000 < k ∨ (0 ≤ k ∧ k ≤ 1000) from by omega) with h | h | ⟨h, h'⟩
  · rw [bs_low h]
    go_enter Try.func34, Try.ntmps34
    go_wp2
    go_ret
    exact ⟨rfl, rfl⟩
  · rw [bs_high h]
    go_enter Try.func34, Try.ntmps34
    go_wp2
    go_ret
    exact ⟨rfl, rfl⟩
  · rw [bs_in h h']
    go_enter Try.func34, Try.ntmps34
    go_wp2
    go_ret
    exact ⟨rfl, rfl⟩

theorem baseIn {k : Int} (h0 : 0 ≤ k) (h1 : k ≤ 1000) (w : World) : Calls Try.prog 34 #[.int .i64 k] w fun e w' => e = .returned (.int .i64 (3 + 5 * k)) ∧ w = w' := by
  have C := baseAny k w
  rw [bs_in h0 h1] at C
  exact C

set_option maxRecDepth 100000 in
theorem openIn (n : Int) (h0 : 1 ≤ n) (h1 : n ≤ 64) (w : World) : Calls Try.prog 14 #[.int .i64 n] w fun e w' => e = .returned (.pointer (some ⟨w.heap.size, 0, none⟩)) ∧ Mem1 w' w.heap.size w.heap.size (3 + 5 * n) [0, 0, 0] 1 ∧ Below w.heap.size w w' := by
  go_enter Try.func14, Try.ntmps14
  go_wp2_with fail
  refine (baseIn (k := n) (by omega) (by omega) _).mono ?_
  rintro e w1 ⟨rfl, rfl⟩
  go_wp2_with fail
  refine (new1 (3 + 5 * n) w (by omega) (by omega)).mono ?_
  rintro e w1 ⟨rfl, m1, b1⟩
  have C := alloc1 m1 3 (by omega) (by simp; omega) (by omega) (by omega)
  have HB1 := Lib.hid b1
  clear m1 b1
  go_wp2_with fail
  refine C.mono ?_
  clear C
  rintro e w2 ⟨rfl, m2, b2⟩
  have HM2 := Lib.hid m2
  have HB2 := Lib.hid (HB1.out.trans b2)
  clear m2 b2
  go_wp2
  go_ret
  exact ⟨rfl, HM2.out, HB2.out⟩

set_option maxRecDepth 100000 in
theorem openOut (n : Int) (h : n < 1 ∨ 64 < n) (w : World) : Calls Try.prog 14 #[.int .i64 n] w fun e w' => e = .returned (.pointer none) ∧ w = w' := by
  rcases (show n < 1 ∨ (1 ≤ n ∧ 64 < n) from by omega) with h | ⟨h, h'⟩
  · go_enter Try.func14, Try.ntmps14
    go_wp2
    go_ret
    exact ⟨rfl, rfl⟩
  · go_enter Try.func14, Try.ntmps14
    go_wp2
    go_ret
    exact ⟨rfl, rfl⟩

section
variable {w : World} {B p : Nat} {size : Int} {zs : List Int} {st : Int}

theorem Mem1.most (h : Mem1 w B p size zs st) : zs.length ≤ 1000 := by
  obtain ⟨v, m⟩ := h
  have := m.room
  have := m.s1
  omega

set_option maxRecDepth 100000 in
theorem many1 (h : Mem1 w B p size zs st) : Calls Try.prog 78 #[.pointer (some ⟨p, 0, none⟩)] w fun e w' => e = .returned (.int .i64 (mn zs.length : Nat)) ∧ w = w' := by
  have hl := h.most
  have T := top1 h
  clear h
  generalize zs.length = n at *
  by_cases hn : n < 3
  · have e0 : mn n = 0 := by unfold mn; omega
    rw [e0]
    clear e0
    go_enter Try.func78, Try.ntmps78
    go_wp2_with fail
    refine T.mono ?_
    clear T
    rintro e w1 ⟨rfl, rfl⟩
    go_wp2
    all_goals (go_ret; first | exact ⟨rfl, rfl⟩ | (exfalso; omega) | exact ⟨by simp; omega, rfl⟩)
  · have e0 : ((mn n : Nat) : Int) = ((n : Int) - 3) / 5 := by unfold mn; omega
    rw [e0]
    clear e0
    go_enter Try.func78, Try.ntmps78
    go_wp2_with fail
    refine T.mono ?_
    clear T
    rintro e w1 ⟨rfl, rfl⟩
    go_wp2
    all_goals (go_ret; first | exact ⟨rfl, rfl⟩ | (exfalso; omega) | exact ⟨by simp <;> omega, rfl⟩)

end

end Go.Proofs.Ythefdglocnalhaa.M2
namespace Go.Proofs.Ythefdglocnalhaa.M2
open Go.RowKit

/-- Five numbers in a block of their own. -/
def B5 (w : World) (N : Nat) (t : TypeId) (a b c d e : Int) : Prop := w.heap[N]? = some (.cells #[.int .i64 a, .int .i64 b, .int .i64 c, .int .i64 d, .int .i64 e] t (0, 0))

section
variable {w w' : World} {N : Nat} {t : TypeId} {a b c d e : Int}
theorem B5.c0 (h : B5 w N t a b c d e) : w.cell? ⟨N, 0, none⟩ = some (.int .i64 a) := by unfold B5 at h; simp [World.cell?, h]
theorem B5.c1 (h : B5 w N t a b c d e) : w.cell? ⟨N, 1, none⟩ = some (.int .i64 b) := by unfold B5 at h; simp [World.cell?, h]
theorem B5.c2 (h : B5 w N t a b c d e) : w.cell? ⟨N, 2, none⟩ = some (.int .i64 c) := by unfold B5 at h; simp [World.cell?, h]
theorem B5.c3 (h : B5 w N t a b c d e) : w.cell? ⟨N, 3, none⟩ = some (.int .i64 d) := by unfold B5 at h; simp [World.cell?, h]
theorem B5.c4 (h : B5 w N t a b c d e) : w.cell? ⟨N, 4, none⟩ = some (.int .i64 e) := by unfold B5 at h; simp [World.cell?, h]
theorem B5.f (h : B5 w N t a b c d e) (o : Nat) : w.frozen? ⟨N, o, none⟩ = false := by unfold B5 at h; simp [World.frozen?, h]
theorem B5.lt (h : B5 w N t a b c d e) : N < w.heap.size := lt_of_block h
theorem B5.keep (h : B5 w N t a b c d e) (hb : Below w.heap.size w w') : B5 w' N t a b c d e := (hb.block N h.lt).trans h
theorem B5.new (w : World) (t : TypeId) (a b c d e : Int) : B5 (w.alloc (.cells #[.int .i64 a, .int .i64 b, .int .i64 c, .int .i64 d, .int .i64 e] t)) w.heap.size t a b c d e := heap_alloc_new w _
theorem B5.alloc (h : B5 w N t a b c d e) (o : Obj) : B5 (w.alloc o) N t a b c d e := (Below.heap_alloc _ _ _ h.lt).trans h
theorem B5.other (h : B5 w N t a b c d e) {q : Addr} (hq : q.block ≠ N) (x : Value) : B5 (w.setCell q x) N t a b c d e := (Below.heap_setCell _ _ _ _ (fun e => hq e.symm)).trans h
theorem B5.set0 (h : B5 w N t a b c d e) (x : Int) : B5 (w.setCell ⟨N, 0, none⟩ (.int .i64 x)) N t x b c d e := by unfold B5; rw [heap_setCell_same w N 0 _ _ _ h]; rfl
theorem B5.set1 (h : B5 w N t a b c d e) (x : Int) : B5 (w.setCell ⟨N, 1, none⟩ (.int .i64 x)) N t a x c d e := by unfold B5; rw [heap_setCell_same w N 1 _ _ _ h]; rfl
theorem B5.set2 (h : B5 w N t a b c d e) (x : Int) : B5 (w.setCell ⟨N, 2, none⟩ (.int .i64 x)) N t a b x d e := by unfold B5; rw [heap_setCell_same w N 2 _ _ _ h]; rfl
theorem B5.set3 (h : B5 w N t a b c d e) (x : Int) : B5 (w.setCell ⟨N, 3, none⟩ (.int .i64 x)) N t a b c x e := by unfold B5; rw [heap_setCell_same w N 3 _ _ _ h]; rfl
theorem B5.set4 (h : B5 w N t a b c d e) (x : Int) : B5 (w.setCell ⟨N, 4, none⟩ (.int .i64 x)) N t a b c d x := by unfold B5; rw [heap_setCell_same w N 4 _ _ _ h]; rfl
theorem B5.set5 (h : B5 w N t a b c d e) (a' b' c' d' e' : Int) : B5 (((((w.setCell ⟨N, 0, none⟩ (.int .i64 a')).setCell ⟨N, 1, none⟩ (.int .i64 b')).setCell ⟨N, 2, none⟩ (.int .i64 c')).setCell ⟨N, 3, none⟩ (.int .i64 d')).setCell ⟨N, 4, none⟩ (.int .i64 e')) N t a' b' c' d' e' :=
  ((((h.set0 a').set1 b').set2 c').set3 d').set4 e'
end

section
variable {w : World} {B p : Nat} {size : Int} {zs : List Int} {st : Int}

set_option maxRecDepth 100000 in
theorem nthIn (h : Mem1 w B p size zs st) (k : Nat) (hk : k < mn zs.length) : Calls Try.prog 53 #[.pointer (some ⟨p, 0, none⟩), .int .i64 (3 + 5 * (k : Int))] w fun e w' => e = .returned (.tuple #[.int .i64 k, .bool true]) ∧ w = w' := by
  have hl := h.most
  have C := many1 h
  have hk3 : k ≤ 200 := by unfold mn at hk; omega
  have hB := fun w => baseIn (k := (k : Int)) (by omega) (by omega) w
  clear h hl
  generalize mn zs.length = M at *
  have hk2 : (k : Int) < M := by omega
  obtain ⟨a, ha⟩ : ∃ a : Int, a = 3 + 5 * (k : Int) := ⟨_, rfl⟩
  rw [← ha]
  rw [← ha] at hB
  have hq : (a - 3) / 5 = (k : Int) := by omega
  have a3 : 3 ≤ a := by omega
  have a4 : a ≤ 2000 := by omega
  clear ha hk hk3
  go_enter Try.func53, Try.ntmps53
  go_wp2_with fail
  refine C.mono ?_
  clear C
  rintro e w1 ⟨rfl, rfl⟩
  go_wp2_with fail
  refine (hB w).mono ?_
  rintro e w1 ⟨rfl, rfl⟩
  go_wp2
  go_ret2
  exact ⟨rfl, rfl⟩

set_option maxRecDepth 100000 in
theorem nthOut (h : Mem1 w B p size zs st) (a : Int) (ha : ∀ k : Nat, k < mn zs.length → a ≠ 3 + 5 * (k : Int)) (a1 : a ≤ 9223372036854775807) : Calls Try.prog 53 #[.pointer (some ⟨p, 0, none⟩), .int .i64 a] w fun e w' => e = .returned (.tuple #[.int .i64 0, .bool false]) ∧ w = w' := by
  by_cases h3 : a < 3
  · go_enter Try.func53, Try.ntmps53
    go_wp2
    go_ret2
    exact ⟨rfl, rfl⟩
  · have hl := h.most
    have C := many1 h
    have hm : mn zs.length ≤ 200 := by unfold mn; omega
    clear h hl
    generalize mn zs.length = M at *
    have q0 : 0 ≤ (a - 3) / 5 := by omega
    have qe := Lib.hid (show ∀ q : Int, q = (a - 3) / 5 → q < M → a ≠ 3 + 5 * q by
      intro q hq hM e
      exact ha q.toNat (by omega) (by rw [Int.toNat_of_nonneg (by omega)]; exact e))
    clear ha
    obtain ⟨q, hq⟩ : ∃ q : Int, (a - 3) / 5 = q := ⟨_, rfl⟩
    have qe := Lib.hid (qe.out q hq.symm)
    rw [hq] at q0
    by_cases hM : (M : Int) ≤ q
    · go_enter Try.func53, Try.ntmps53
      go_wp2_with fail
      refine C.mono ?_
      clear C
      rintro e w1 ⟨rfl, rfl⟩
      go_wp2
      go_ret2
      exact ⟨rfl, rfl⟩
    · have hB := fun w => baseIn (k := q) (by omega) (by omega) w
      have hne := qe.out (by omega)
      obtain ⟨b, hb⟩ : ∃ b : Int, 3 + 5 * q = b := ⟨_, rfl⟩
      rw [hb] at hB hne
      clear hb
      have hne : (a != b) = true := by simpa using hne
      go_enter Try.func53, Try.ntmps53
      go_wp2_with fail
      refine C.mono ?_
      clear C
      rintro e w1 ⟨rfl, rfl⟩
      go_wp2_with fail
      refine (hB w).mono ?_
      rintro e w1 ⟨rfl, rfl⟩
      go_wp2
      go_ret2
      exact ⟨rfl, rfl⟩

/-- A record, or none. -/
theorem rec_or (n : Nat) (a : Int) : (∃ k : Nat, k < mn n ∧ a = 3 + 5 * (k : Int)) ∨ (∀ k : Nat, k < mn n → a ≠ 3 + 5 * (k : Int)) := by
  by_cases h : ∃ k : Nat, k < mn n ∧ a = 3 + 5 * (k : Int)
  · exact .inl h
  · exact .inr fun k hk e => h ⟨k, hk, e⟩

end

end Go.Proofs.Ythefdglocnalhaa.M2
namespace Go.Proofs.Ythefdglocnalhaa.M2
open Go.RowKit

section
variable {w : World} {B p : Nat} {size : Int} {zs : List Int} {st : Int}

set_option maxRecDepth 100000 in
set_option maxHeartbeats 1600000 in
theorem pieceIn (h : Mem1 w B p size zs st) (a : Nat) (ha : a + 5 ≤ zs.length) : Calls Try.prog 54 #[.pointer (some ⟨p, 0, none⟩), .int .i64 a] w fun e w' =>
    e = .returned (.agg #[.int .i64 (zs.getD a 0), .int .i64 (zs.getD (a + 1) 0), .int .i64 (zs.getD (a + 2) 0), .int .i64 (zs.getD (a + 3) 0), .int .i64 (zs.getD (a + 4) 0)]) ∧ Below w.heap.size w w' := by
  have hl := h.most
  have hL := Lib.hid ha
  obtain ⟨z0, h0⟩ : ∃ z, zs.getD a 0 = z := ⟨_, rfl⟩
  obtain ⟨z1, h1⟩ : ∃ z, zs.getD (a + 1) 0 = z := ⟨_, rfl⟩
  obtain ⟨z2, h2⟩ : ∃ z, zs.getD (a + 2) 0 = z := ⟨_, rfl⟩
  obtain ⟨z3, h3⟩ : ∃ z, zs.getD (a + 3) 0 = z := ⟨_, rfl⟩
  obtain ⟨z4, h4⟩ : ∃ z, zs.getD (a + 4) 0 = z := ⟨_, rfl⟩
  rw [h0, h1, h2, h3, h4]
  have H0 := Lib.hid h0
  have H1 := Lib.hid h1
  have H2 := Lib.hid h2
  have H3 := Lib.hid h3
  have H4 := Lib.hid h4
  clear h0 h1 h2 h3 h4
  go_enter Try.func54, Try.ntmps54
  go_upto_region 2 with (fail)
  generalize hW : w.alloc (.cells #[.int .i64 0, .int .i64 0, .int .i64 0, .int .i64 0, .int .i64 0] 105) = W
  have HX := Lib.hid (show B5 W w.heap.size 105 0 0 0 0 0 by subst hW; exact B5.new _ _ _ _ _ _ _)
  have HB := Lib.hid (show Below w.heap.size w W by subst hW; exact (Below.refl _ _).alloc (Nat.le_refl _) _)
  have C := cells1 (show Mem1 W B p size zs st from h.keep HB.out)
  clear hW h
  go_wp2_with fail
  refine C.mono ?_
  clear C
  rintro e W2 ⟨rfl, o2, b2⟩
  have cs : ∀ i, i < 5 → W2.cell? ⟨W.heap.size, a + i, none⟩ = some (.int .i64 (zs.getD (a + i) 0)) := by
    intro i hi
    have := (own_cell o2 (a := ((a + i : Nat) : Int)) (by omega) (by have := hL.out; omega)).1
    rw [show (((a + i : Nat) : Int)).toNat = a + i by omega] at this
    exact this
  have c0 := cs 0 (by omega)
  have c1 := cs 1 (by omega)
  have c2 := cs 2 (by omega)
  have c3 := cs 3 (by omega)
  have c4 := cs 4 (by omega)
  simp only [Nat.add_zero] at c0
  have HY := Lib.hid (HX.out.keep b2)
  have HB2 := Lib.hid (HB.out.trans (b2.mono HB.out.size))
  clear cs o2 b2 HX HB
  have hN := HY.out.lt
  have e0 := HY.out.c0
  have e1 := HY.out.c1
  have e2 := HY.out.c2
  have e3 := HY.out.c3
  have e4 := HY.out.c4
  have ef := HY.out.f
  rw [H0.out] at c0
  rw [H1.out] at c1
  rw [H2.out] at c2
  rw [H3.out] at c3
  rw [H4.out] at c4
  clear H0 H1 H2 H3 H4
  generalize zs.length = n at *
  have hat : ∀ w c, (Instr.arrayAt 105 (.slice (some ⟨W.heap.size, a, none⟩) 5 c)).run Try.prog w = .ok (.pointer (some ⟨W.heap.size, a, none⟩)) w := fun w c => run_arrayAt w 105 _ 5 _ 5 c Try.underlying105 (by omega)
  go_wp2
  have Z := HY.out.set5 z0 z1 z2 z3 z4
  refine bodyPost_ret (v := .agg #[.int .i64 z0, .int .i64 z1, .int .i64 z2, .int .i64 z3, .int .i64 z4]) (by simp [results, Try.results54, go_sem, Z.c0, Z.c1, Z.c2, Z.c3, Z.c4]) rfl ⟨rfl, ?_⟩
  exact ((((HB2.out.setCell (Nat.le_refl _) _).setCell (by simp) _).setCell (by simp) _).setCell (by simp) _).setCell (by simp) _

set_option maxRecDepth 100000 in
set_option maxHeartbeats 1600000 in
theorem seeIn (h : Mem1 w B p size zs st) (k : Nat) (hk : k < mn zs.length) : Calls Try.prog 27 #[.pointer (some ⟨p, 0, none⟩), .int .i64 (3 + 5 * (k : Int))] w fun e w' =>
    e = .returned (.tuple #[.agg #[.int .i64 (zs.getD (3 + 5 * k) 0), .int .i64 (zs.getD (3 + 5 * k + 1) 0), .int .i64 (zs.getD (3 + 5 * k + 2) 0), .int .i64 (zs.getD (3 + 5 * k + 3) 0), .int .i64 (zs.getD (3 + 5 * k + 4) 0)], .bool true]) ∧ Below w.heap.size w w' := by
  have hK : 3 + 5 * k + 5 ≤ zs.length := by unfold mn at hk; omega
  obtain ⟨W, hW⟩ : ∃ W, w.alloc (.cells #[.int .i64 0, .int .i64 0, .int .i64 0, .int .i64 0, .int .i64 0] 61) = W := ⟨_, rfl⟩
  have HX := Lib.hid (show B5 W w.heap.size 61 0 0 0 0 0 by subst hW; exact B5.new _ _ _ _ _ _ _)
  have HB := Lib.hid (show Below w.heap.size w W by subst hW; exact (Below.refl _ _).alloc (Nat.le_refl _) _)
  have m := h.keep HB.out
  have C1 := nthIn m k hk
  have C2 := pieceIn m (3 + 5 * k) hK
  rw [show (((3 + 5 * k : Nat)) : Int) = 3 + 5 * (k : Int) by omega] at C2
  have HW := Lib.hid hW
  clear h m hK hW
  generalize zs.getD (3 + 5 * k) 0 = z0 at *
  generalize zs.getD (3 + 5 * k + 1) 0 = z1 at *
  generalize zs.getD (3 + 5 * k + 2) 0 = z2 at *
  generalize zs.getD (3 + 5 * k + 3) 0 = z3 at *
  generalize zs.getD (3 + 5 * k + 4) 0 = z4 at *
  generalize 3 + 5 * (k : Int) = a at *
  clear hk
  go_enter Try.func27, Try.ntmps27
  go_wp2_with fail
  rw [HW.out]
  refine C1.mono ?_
  clear C1
  rintro e w1 ⟨rfl, rfl⟩
  go_wp2_with fail
  refine C2.mono ?_
  clear C2
  rintro e W2 ⟨rfl, b2⟩
  have HY := Lib.hid (HX.out.keep b2)
  have HB2 := Lib.hid (HB.out.trans (b2.mono HB.out.size))
  clear b2 HX HB HW
  have hN := HY.out.lt
  have e0 := HY.out.c0
  have e1 := HY.out.c1
  have e2 := HY.out.c2
  have e3 := HY.out.c3
  have e4 := HY.out.c4
  have ef := HY.out.f
  go_wp2
  have Z := (HY.out.set5 z0 z1 z2 z3 z4).alloc (.cells #[.int .i64 z0, .int .i64 z1, .int .i64 z2, .int .i64 z3, .int .i64 z4] 105)
  refine bodyPost_ret (v := .tuple #[.agg #[.int .i64 z0, .int .i64 z1, .int .i64 z2, .int .i64 z3, .int .i64 z4], .bool true]) (by simp [results, Try.results27, go_sem, Z.c0, Z.c1, Z.c2, Z.c3, Z.c4]) rfl ⟨rfl, ?_⟩
  exact (((((HB2.out.setCell (Nat.le_refl _) _).setCell (by simp) _).setCell (by simp) _).setCell (by simp) _).setCell (by simp) _).alloc (by simpa [World.setCell] using HB2.out.size) _

set_option maxRecDepth 100000 in
theorem seeOut (h : Mem1 w B p size zs st) (a : Int) (ha : ∀ k : Nat, k < mn zs.length → a ≠ 3 + 5 * (k : Int)) (a1 : a ≤ 9223372036854775807) : Calls Try.prog 27 #[.pointer (some ⟨p, 0, none⟩), .int .i64 a] w fun e w' =>
    e = .returned (.tuple #[.agg #[.int .i64 0, .int .i64 0, .int .i64 0, .int .i64 0, .int .i64 0], .bool false]) ∧ Below w.heap.size w w' := by
  obtain ⟨W, hW⟩ : ∃ W, w.alloc (.cells #[.int .i64 0, .int .i64 0, .int .i64 0, .int .i64 0, .int .i64 0] 61) = W := ⟨_, rfl⟩
  have HX := Lib.hid (show B5 W w.heap.size 61 0 0 0 0 0 by subst hW; exact B5.new _ _ _ _ _ _ _)
  have HB := Lib.hid (show Below w.heap.size w W by subst hW; exact (Below.refl _ _).alloc (Nat.le_refl _) _)
  have C1 := nthOut (h.keep HB.out) a ha a1
  have HW := Lib.hid hW
  clear h hW ha a1
  go_enter Try.func27, Try.ntmps27
  go_wp2_with fail
  rw [HW.out]
  clear HW
  refine C1.mono ?_
  clear C1
  rintro e w1 ⟨rfl, rfl⟩
  have hN := HX.out.lt
  have e0 := HX.out.c0
  have e1 := HX.out.c1
  have e2 := HX.out.c2
  have e3 := HX.out.c3
  have e4 := HX.out.c4
  have ef := HX.out.f
  go_wp2
  have Z := HX.out.set5 0 0 0 0 0
  refine bodyPost_ret (v := .tuple #[.agg #[.int .i64 0, .int .i64 0, .int .i64 0, .int .i64 0, .int .i64 0], .bool false]) (by simp [results, Try.results27, go_sem, Z.c0, Z.c1, Z.c2, Z.c3, Z.c4]) rfl ⟨rfl, ?_⟩
  exact (((((HB.out).setCell (Nat.le_refl _) _).setCell (by simp) _).setCell (by simp) _).setCell (by simp) _).setCell (by simp) _
end

end Go.Proofs.Ythefdglocnalhaa.M2
