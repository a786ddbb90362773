/-
  What came in: a thread by value, its batch's items read out of memory. Conditions: none.
-/
import Derived.Test.YtfnjbbokbdddpaaGX17
import Derived.Test.YtfnjbbokbdddpaaG0417
import Derived.Test.YtfnjbbokbdddpaaG0117
namespace Go.Proofs.Ytfnjbbokbdddpaa.M2
open Go.RowKit Go.ChangeShapes Go.WideShapes Go.Deep Go.Joins

theorem list13 {α : Type} {cs : List α} (h : cs.length = 13) : ∃ c0 c1 c2 c3 c4 c5 c6 c7 c8 c9 c10 c11 c12, cs = [c0, c1, c2, c3, c4, c5, c6, c7, c8, c9, c10, c11, c12] := by
  match cs, h with
  | [c0, c1, c2, c3, c4, c5, c6, c7, c8, c9, c10, c11, c12], _ => exact ⟨c0, c1, c2, c3, c4, c5, c6, c7, c8, c9, c10, c11, c12, rfl⟩
theorem list3 {α : Type} {cs : List α} (h : cs.length = 3) : ∃ c0 c1 c2, cs = [c0, c1, c2] := by
  match cs, h with
  | [c0, c1, c2], _ => exact ⟨c0, c1, c2, rfl⟩

set_option maxRecDepth 100000 in
theorem oneItem {H : Type} {enc : TypeId × Value → H} {W : World} {fuel : Nat} {cs : List Value} {y : DataW H × List MemPlace} (hl : cs.length = 3) (h : DataW.trod enc Try.prog W 0 (fun _ => true) true fuel 93 cs = some y) :
    ∃ x : Int × Int × Int, cs = [.int .i64 x.1, .int .i64 x.2.1, .int .i64 x.2.2] ∧ True := by
  obtain ⟨xs, n, _, hx, _, hlen, hg⟩ := DataW.trod_struct Try.underlying93 h
  obtain ⟨c0, c1, c2, rfl⟩ := list3 hl
  obtain ⟨y0, y1, y2, rfl⟩ := list3 (cs := xs) hlen
  have k0 : Try.prog.cellsOf 3 = 1 := by kernel_rfl
  have k1 : Try.prog.cellsOf 2 = 1 := by kernel_rfl
  have g0 := hg 0 _ rfl
  have g1 := hg 1 _ rfl
  have g2 := hg 2 _ rfl
  simp [k0, k1] at g0 g1 g2
  obtain ⟨m0, e0, _, _⟩ := DataW.trod_int Try.underlying3 g0
  obtain ⟨m1, e1, _, _⟩ := DataW.trod_int Try.underlying2 g1
  obtain ⟨m2, e2, _, _⟩ := DataW.trod_int Try.underlying2 g2
  simp only [List.cons.injEq, and_true] at e0 e1 e2
  subst e0 e1 e2
  exact ⟨(m0, m1, m2), rfl, trivial⟩

theorem fi_get (l : List (Int × Int × Int)) {j : Nat} (hj : j < l.length * 3) : (fi l)[j]? = ([.int .i64 (l.getD (j / 3) (0, 0, 0)).1, .int .i64 (l.getD (j / 3) (0, 0, 0)).2.1, .int .i64 (l.getD (j / 3) (0, 0, 0)).2.2] : List Value)[j % 3]? := by
  obtain ⟨h0, h1, h2⟩ := fi_at l (j / 3) (by omega)
  rcases (show j % 3 = 0 ∨ j % 3 = 1 ∨ j % 3 = 2 by omega) with e | e | e
  · rw [e, show (fi l)[j]? = (fi l)[j / 3 * 3]? by congr 1; omega, h0]
    rfl
  · rw [e, show (fi l)[j]? = (fi l)[j / 3 * 3 + 1]? by congr 1; omega, h1]
    rfl
  · rw [e, show (fi l)[j]? = (fi l)[j / 3 * 3 + 2]? by congr 1; omega, h2]
    rfl

set_option maxRecDepth 100000 in
set_option maxHeartbeats 1600000 in
theorem openThread {r : Reach} {b0 : Nat} {H : Type} {enc : TypeId × Value → H} {W : World} {v : Value} {d : DataW H} {ps : List MemPlace} (hv : Value.okWide Try.prog W r b0 25 v)
    (h : DataW.Trod enc Try.prog W 0 (fun _ => true) true 25 v d ps) : ∃ (t : Th) (ao : Option Addr) (n cap : Nat) (l : List (Int × Int × Int)), v = thV t (.slice ao n cap) ∧ Its W ao n l ∧ (ao = none → cap = 0) ∧ ad t.rc 0 = t.rc ∧ ad t.cu 0 = t.cu := by
  obtain ⟨cs, rfl, hsz⟩ := okWide_struct Try.underlying25 hv
  have hs13 : cs.size = 13 := hsz.trans (by kernel_rfl)
  obtain ⟨fuel, hf⟩ := h
  obtain ⟨xs, n, _, hx, _, hlen, hg⟩ := DataW.trod_struct Try.underlying25 hf
  obtain ⟨c0, c1, c2, c3, c4, c5, c6, c7, c8, c9, c10, c11, c12, hcs⟩ := list13 (cs := cs.toList) (by simpa using hs13)
  obtain ⟨y0, y1, y2, y3, y4, y5, y6, y7, y8, y9, y10, y11, y12, rfl⟩ := list13 (cs := xs) hlen
  obtain rfl : cs = #[c0, c1, c2, c3, c4, c5, c6, c7, c8, c9, c10, c11, c12] := by cases cs; simp_all
  have k0 : Try.prog.cellsOf 3 = 1 := by kernel_rfl
  have k1 : Try.prog.cellsOf 2 = 1 := by kernel_rfl
  have k2 : Try.prog.cellsOf 23 = 1 := by kernel_rfl
  have g0 := hg 0 _ rfl
  simp [Value.cells, k0] at g0
  have g1 := hg 1 _ rfl
  simp [Value.cells, k0] at g1
  have g2 := hg 2 _ rfl
  simp [Value.cells, k0] at g2
  have g3 := hg 3 _ rfl
  simp [Value.cells, k0] at g3
  have g4 := hg 4 _ rfl
  simp [Value.cells, k1] at g4
  have g5 := hg 5 _ rfl
  simp [Value.cells, k1] at g5
  have g6 := hg 6 _ rfl
  simp [Value.cells, k0] at g6
  have g7 := hg 7 _ rfl
  simp [Value.cells, k0] at g7
  have g8 := hg 8 _ rfl
  simp [Value.cells, k0] at g8
  have g9 := hg 9 _ rfl
  simp [Value.cells, k0] at g9
  have g10 := hg 10 _ rfl
  simp [Value.cells, k1] at g10
  have g11 := hg 11 _ rfl
  simp [Value.cells, k0] at g11
  have g12 := hg 12 _ rfl
  simp [Value.cells, k2] at g12
  clear hg hx hlen hf hcs
  obtain ⟨m0, e0, _, w0⟩ := DataW.trod_int Try.underlying3 g0
  obtain ⟨m1, e1, _, w1⟩ := DataW.trod_int Try.underlying3 g1
  obtain ⟨m2, e2, _, w2⟩ := DataW.trod_int Try.underlying3 g2
  obtain ⟨m3, e3, _, w3⟩ := DataW.trod_int Try.underlying3 g3
  obtain ⟨m4, e4, _, w4⟩ := DataW.trod_int Try.underlying2 g4
  obtain ⟨m5, e5, _, w5⟩ := DataW.trod_int Try.underlying2 g5
  obtain ⟨m6, e6, _, w6⟩ := DataW.trod_int Try.underlying3 g6
  obtain ⟨m7, e7, _, w7⟩ := DataW.trod_int Try.underlying3 g7
  obtain ⟨m8, e8, _, w8⟩ := DataW.trod_int Try.underlying3 g8
  obtain ⟨m9, e9, _, w9⟩ := DataW.trod_int Try.underlying3 g9
  obtain ⟨m10, e10, _, w10⟩ := DataW.trod_int Try.underlying2 g10
  obtain ⟨m11, e11, _, w11⟩ := DataW.trod_int Try.underlying3 g11
  simp only [List.cons.injEq, and_true] at e0 e1 e2 e3 e4 e5 e6 e7 e8 e9 e10 e11
  subst e0 e1 e2 e3 e4 e5 e6 e7 e8 e9 e10 e11
  have b2 := bounds_i64 w2
  have hrc : ad m2 0 = m2 := by unfold ad wrap64; omega
  have b6 := bounds_i64 w6
  have hcu : ad m6 0 = m6 := by unfold ad wrap64; omega
  rcases DataW.trod_slice Try.underlying23 g12 with ⟨e, _⟩ | ⟨a, len, cap, _, _, _, _, e, _⟩
  · simp only [List.cons.injEq, and_true] at e
    subst e
    exact ⟨⟨m0, m1, m2, m3, m4, m5, m6, m7, m8, m9, m10, m11⟩, none, 0, 0, [], rfl, Its.zero _ _, fun _ => rfl, hrc, hcu⟩
  · simp only [List.cons.injEq, and_true] at e
    subst e
    obtain ⟨its, hl, hc, _⟩ := openRows (α := Int × Int × Int) (fun x => [.int .i64 x.1, .int .i64 x.2.1, .int .i64 x.2.2]) (0, 0, 0) 3 (fun _ => True) (fun _ => rfl) (by decide) Try.underlying23 (by kernel_rfl) (fun h1 h2 => oneItem h1 h2) ⟨n, g12⟩
    refine ⟨⟨m0, m1, m2, m3, m4, m5, m6, m7, m8, m9, m10, m11⟩, some a, len, cap, its, rfl, ⟨hl, fun hp => ?_⟩, fun h => by simp at h, hrc, hcu⟩
    obtain ⟨b, off, ea, hb, hcell⟩ := hc hp
    refine ⟨b, off, ea, hb, fun j u hu => ?_⟩
    have hj : j < its.length * 3 := by
      have := (List.getElem?_eq_some_iff.1 hu).1
      rwa [fi_length] at this
    have hq := hcell (j / 3) (by omega) (j % 3) (Nat.mod_lt _ (by decide))
    rw [fi_get its hj] at hu
    rw [show off + j = off + j / 3 * 3 + j % 3 by omega, hq]
    exact hu

end Go.Proofs.Ytfnjbbokbdddpaa.M2
