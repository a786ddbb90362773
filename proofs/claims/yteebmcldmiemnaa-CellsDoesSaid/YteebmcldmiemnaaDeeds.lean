/-
  A list of deeds that came in: each deed's five cells. Conditions: none.
-/
import Derived.Test.YteebmcldmiemnaaStep
import Derived.Deep.Slices
import Derived.Deep.Fields
namespace Go.Proofs.Yteebmcldmiemnaa
open Go.RowKit Go.ChangeShapes Go.WideShapes Go.Deep

/-- A deed at a place. -/
def DeedAt (w : World) (b o : Nat) (k n a q x : Int) : Prop :=
  0 ≤ k ∧ k ≤ 255 ∧ 0 ≤ a ∧ a ≤ 255 ∧ w.cell? ⟨b, o, none⟩ = some (.int .u8 k) ∧ w.cell? ⟨b, o + 1, none⟩ = some (.int .i64 n) ∧ w.cell? ⟨b, o + 2, none⟩ = some (.int .u8 a) ∧
    w.cell? ⟨b, o + 3, none⟩ = some (.int .i64 q) ∧ w.cell? ⟨b, o + 4, none⟩ = some (.int .i64 x)

/-- A list of deeds. -/
def Deeds (w : World) (ao : Option Addr) (len : Nat) : Prop :=
  len ≤ maxLen ∧ (0 < len → ∃ b off, ao = some ⟨b, off, none⟩ ∧ b < w.heap.size ∧ ∀ i, i < len → ∃ k n a q x, DeedAt w b (off + i * 5) k n a q x)

theorem Deeds.keep {w w' : World} {ao : Option Addr} {len : Nat} (h : Deeds w ao len) (hb : Below w.heap.size w w') : Deeds w' ao len := by
  refine ⟨h.1, fun hp => ?_⟩
  obtain ⟨b, off, e, hl, hd⟩ := h.2 hp
  refine ⟨b, off, e, Nat.lt_of_lt_of_le hl hb.size, fun i hi => ?_⟩
  obtain ⟨k, n, a, q, x, h1, h2, h3, h4, c0, c1, c2, c3, c4⟩ := hd i hi
  exact ⟨k, n, a, q, x, h1, h2, h3, h4, (hb.cell (p := ⟨b, _, none⟩) hl).trans c0, (hb.cell (p := ⟨b, _, none⟩) hl).trans c1, (hb.cell (p := ⟨b, _, none⟩) hl).trans c2, (hb.cell (p := ⟨b, _, none⟩) hl).trans c3, (hb.cell (p := ⟨b, _, none⟩) hl).trans c4⟩

theorem deedsOne : ∃ f0 f1 f2 f3 f4 : Field, Try.prog.underlying 52 = some (.struct #[f0, f1, f2, f3, f4]) ∧ oneCellFields Try.prog #[f0, f1, f2, f3, f4] = true ∧
    f0.type = 5 ∧ f1.type = 3 ∧ f2.type = 5 ∧ f3.type = 2 ∧ f4.type = 2 :=
  ⟨_, _, _, _, _, Try.underlying52, by kernel_rfl, rfl, rfl, rfl, rfl, rfl⟩

theorem deedCells {H : Type} {enc : TypeId × Value → H} {W : World} {fuel : Nat} {cs : List Value} {y : DataW H × List MemPlace} (hl : cs.length = 5)
    (h : DataW.trod enc Try.prog W 0 (fun _ => true) true fuel 52 cs = some y) :
    ∃ k n a q x : Int, cs = [.int .u8 k, .int .i64 n, .int .u8 a, .int .i64 q, .int .i64 x] ∧ 0 ≤ k ∧ k ≤ 255 ∧ 0 ≤ a ∧ a ≤ 255 := by
  obtain ⟨f0, f1, f2, f3, f4, hs, hone, t0, t1, t2, t3, t4⟩ := deedsOne
  match cs, hl with
  | [c0, c1, c2, c3, c4], _ =>
    obtain ⟨xs, n, _, _, _, hx, hf⟩ := DataW.trod_struct hs h
    match xs, hx with
    | [y0, y1, y2, y3, y4], _ =>
      obtain ⟨o0, k0⟩ := hone_of hone 0 f0 rfl
      obtain ⟨o1, k1⟩ := hone_of hone 1 f1 rfl
      obtain ⟨o2, k2⟩ := hone_of hone 2 f2 rfl
      obtain ⟨o3, k3⟩ := hone_of hone 3 f3 rfl
      obtain ⟨o4, k4⟩ := hone_of hone 4 f4 rfl
      have g0 := hf 0 f0 rfl
      have g1 := hf 1 f1 rfl
      have g2 := hf 2 f2 rfl
      have g3 := hf 3 f3 rfl
      have g4 := hf 4 f4 rfl
      rw [o0, k0, t0] at g0
      rw [o1, k1, t1] at g1
      rw [o2, k2, t2] at g2
      rw [o3, k3, t3] at g3
      rw [o4, k4, t4] at g4
      simp only [List.drop_zero, List.drop_succ_cons, List.take_succ_cons, List.take_zero] at g0 g1 g2 g3 g4
      obtain ⟨m0, e0, _, w0⟩ := DataW.trod_int Try.underlying5 g0
      obtain ⟨m1, e1, _, _⟩ := DataW.trod_int Try.underlying3 g1
      obtain ⟨m2, e2, _, w2⟩ := DataW.trod_int Try.underlying5 g2
      obtain ⟨m3, e3, _, _⟩ := DataW.trod_int Try.underlying2 g3
      obtain ⟨m4, e4, _, _⟩ := DataW.trod_int Try.underlying2 g4
      simp only [List.cons.injEq, and_true] at e0 e1 e2 e3 e4
      subst e0 e1 e2 e3 e4
      have b0 := bounds_u8 w0
      have b2 := bounds_u8 w2
      exact ⟨m0, m1, m2, m3, m4, rfl, b0.1, b0.2, b2.1, b2.2⟩

theorem openDeeds {H : Type} {enc : TypeId × Value → H} {W : World} {a : Option Addr} {len cap : Nat} {d : DataW H} {ps : List MemPlace}
    (h : DataW.Trod enc Try.prog W 0 (fun _ => true) true 22 (.slice a len cap) d ps) : ∃ _ : Unit, Deeds W a len := by
  refine ⟨(), ?_⟩
  obtain ⟨fuel, hf⟩ := h
  rcases open_slice Try.underlying22 hf with ⟨hcs, _⟩ | ⟨x, l, c, m, n, D, Pl, hcs, _, hl, hm, hmm, _, hi⟩
  · simp [Value.cells] at hcs
    obtain ⟨rfl, rfl, rfl⟩ := hcs
    exact ⟨by simp [maxLen], fun h => by omega⟩
  · simp [Value.cells] at hcs
    obtain ⟨rfl, rfl, rfl⟩ := hcs
    simp only [if_true] at hmm
    have h5 : Try.prog.cellsOf 52 = 5 := by kernel_rfl
    rw [h5] at hi
    have each : ∀ i, i < len → ∃ k n a q z : Int, (0 ≤ k ∧ k ≤ 255 ∧ 0 ≤ a ∧ a ≤ 255) ∧ ∀ j, j < 5 → W.cell? ((x.add (i * 5)).add j) = ([.int .u8 k, .int .i64 n, .int .u8 a, .int .i64 q, .int .i64 z] : List Value)[j]? := by
      intro i hil
      obtain ⟨cs', hc, ht'⟩ := hi i (by omega)
      obtain ⟨_, hcl, hat⟩ := World.cells?_some hc
      obtain ⟨k, n, a, q, z, rfl, b⟩ := deedCells hcl ht'
      exact ⟨k, n, a, q, z, b, hat⟩
    refine ⟨by omega, fun hp => ?_⟩
    obtain ⟨b, off, spot⟩ := x
    have hspot : spot = none := by
      obtain ⟨k, n, a, q, z, _, hat⟩ := each 0 hp
      have := hat 0 (by omega)
      simpa [Addr.add] using World.cell?_spot this
    subst hspot
    refine ⟨b, off, rfl, ?_, fun i hil => ?_⟩
    · obtain ⟨k, n, a, q, z, _, hat⟩ := each 0 hp
      exact World.block_lt_of_cell? W _ (hat 0 (by omega))
    · obtain ⟨k, n, a, q, z, hbd, hat⟩ := each i hil
      simp only [Addr.add_lit] at hat
      exact ⟨k, n, a, q, z, hbd.1, hbd.2.1, hbd.2.2.1, hbd.2.2.2, hat 0 (by omega), hat 1 (by omega), hat 2 (by omega), hat 3 (by omega), hat 4 (by omega)⟩

end Go.Proofs.Yteebmcldmiemnaa
