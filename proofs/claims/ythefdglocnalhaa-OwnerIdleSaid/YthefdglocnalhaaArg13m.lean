/-
  What came in: an operation and a result by value; lists of bytes, of int64 and of whatever elements of as many cells each; each read as what its cells hold. Conditions: none.
-/
import Derived.Test.YthefdglocnalhaaTouchm
import Derived.ChangeSlices
import Derived.OpenShut
import Derived.Deep.Slices
import Derived.Deep.Fields
import Derived.SizedLaws
import Derived.Lib.SmallJoins
namespace Go.Proofs.Ythefdglocnalhaa
open Go.RowKit Go.ChangeShapes Go.WideShapes Go.Deep Go.Joins

def ArgBytes (w : World) (ao : Option Addr) (len cap : Nat) (zs : List Int) : Prop := Reads .u8 w ao len zs ∧ len ≤ cap ∧ len ≤ maxLen ∧ ∀ z ∈ zs, 0 ≤ z ∧ z ≤ 255

theorem openNums {k : IntKind} {t e : TypeId} {H : Type} {enc : TypeId × Value → H} {W : World} {a : Option Addr} {len cap : Nat} {d : DataW H} {ps : List MemPlace} (ht : Try.prog.underlying t = some (.slice e)) (he : Try.prog.underlying e = some (.int k)) (hc : Try.prog.cellsOf e = 1)
    (h : DataW.Trod enc Try.prog W 0 (fun _ => true) true t (.slice a len cap) d ps) : ∃ zs, Reads k W a len zs ∧ len ≤ cap ∧ len ≤ maxLen ∧ ∀ z ∈ zs, (Lit.int k z).wf = true := by
  obtain ⟨fuel, hf⟩ := h
  rcases open_ints ht he hc hf with ⟨hcs, _⟩ | ⟨x, l, c, zs, hcs, _, hl, hm, hz, _, hcell, hwz⟩
  · simp [Value.cells] at hcs
    obtain ⟨rfl, rfl, rfl⟩ := hcs
    exact ⟨[], ⟨rfl, fun h => by omega⟩, by omega, by simp [maxLen], by simp⟩
  · simp [Value.cells] at hcs
    obtain ⟨rfl, rfl, rfl⟩ := hcs
    simp only [if_true] at hz
    refine ⟨zs.take len, ⟨by simp; omega, fun hp => ?_⟩, by omega, by omega, fun n hn => hwz n (List.mem_of_mem_take hn)⟩
    obtain ⟨b, off, spot⟩ := x
    have hspot : spot = none := by simpa [Addr.add] using World.cell?_spot (hcell 0 (by omega))
    subst hspot
    refine ⟨b, off, rfl, World.block_lt_of_cell? W _ (hcell 0 (by omega)), fun i hi => ?_⟩
    have := hcell i (by omega)
    rw [Addr.add_lit] at this
    rw [this]
    simp [List.getD, hi]

theorem openBytes {H : Type} {enc : TypeId × Value → H} {W : World} {a : Option Addr} {len cap : Nat} {d : DataW H} {ps : List MemPlace}
    (h : DataW.Trod enc Try.prog W 0 (fun _ => true) true 28 (.slice a len cap) d ps) : ∃ zs, ArgBytes W a len cap zs := by
  obtain ⟨zs, h1, h2, h3, h4⟩ := openNums Try.underlying28 Try.underlying5 (by kernel_rfl) h
  exact ⟨zs, h1, h2, h3, fun z hz => bounds_u8 (h4 z hz)⟩

theorem bytes_u8 : Try.prog.bytesOf 5 = 1 := by kernel_rfl

/-- A list of elements of as many cells each. -/
theorem openRows {α : Type} (cells : α → List Value) (dflt : α) (size : Nat) (good : α → Prop) (hcells : ∀ x, (cells x).length = size) (h0 : 0 < size) {t e : TypeId} {H : Type} {enc : TypeId × Value → H} {W : World} {a : Option Addr} {len cap : Nat} {d : DataW H} {ps : List MemPlace} (ht : Try.prog.underlying t = some (.slice e)) (hc : Try.prog.cellsOf e = size)
    (hone : ∀ {fuel : Nat} {cs : List Value} {y : DataW H × List MemPlace}, cs.length = size → DataW.trod enc Try.prog W 0 (fun _ => true) true fuel e cs = some y → ∃ x, cs = cells x ∧ good x)
    (h : DataW.Trod enc Try.prog W 0 (fun _ => true) true t (.slice a len cap) d ps) :
    ∃ xs : List α, xs.length = len ∧ (0 < len → ∃ b off, a = some ⟨b, off, none⟩ ∧ b < W.heap.size ∧ ∀ i, i < len → ∀ j, j < size → W.cell? ⟨b, off + i * size + j, none⟩ = (cells (xs.getD i dflt))[j]?) ∧ len ≤ cap ∧ len ≤ maxLen ∧ ∀ x ∈ xs, good x := by
  obtain ⟨fuel, hf⟩ := h
  rcases open_slice ht hf with ⟨hcs, _⟩ | ⟨x, l, c, m, n, D, Pl, hcs, _, hl, hm, hmm, _, hi⟩
  · simp [Value.cells] at hcs
    obtain ⟨rfl, rfl, rfl⟩ := hcs
    exact ⟨[], rfl, fun h => by omega, by omega, by simp [maxLen], by simp⟩
  · simp [Value.cells] at hcs
    obtain ⟨rfl, rfl, rfl⟩ := hcs
    simp only [if_true] at hmm
    rw [hc] at hi
    have each : ∀ i, i < len → ∃ y : α, good y ∧ ∀ j, j < size → W.cell? ((x.add (i * size)).add j) = (cells y)[j]? := by
      intro i hil
      obtain ⟨cs', hcl', ht'⟩ := hi i (by omega)
      obtain ⟨_, hcl, hat⟩ := World.cells?_some hcl'
      obtain ⟨y, rfl, g⟩ := hone hcl ht'
      exact ⟨y, g, hat⟩
    have pick : ∃ f : Nat → α, ∀ i, i < len → good (f i) ∧ ∀ j, j < size → W.cell? ((x.add (i * size)).add j) = (cells (f i))[j]? :=
      ⟨fun i => if h : i < len then Classical.choose (each i h) else dflt, fun i hil => by simp only [dif_pos hil]; exact Classical.choose_spec (each i hil)⟩
    obtain ⟨f, hpick⟩ := pick
    refine ⟨(List.range len).map f, by simp, fun hp => ?_, by omega, by omega, fun y hy => ?_⟩
    · obtain ⟨b, off, spot⟩ := x
      have hc0 : ∃ v, W.cell? (((⟨b, off, spot⟩ : Addr).add (0 * size)).add 0) = some v := by
        rw [(hpick 0 hp).2 0 h0]
        exact ⟨_, List.getElem?_eq_getElem (by rw [hcells]; exact h0)⟩
      obtain ⟨v0, hv0⟩ := hc0
      have hspot : spot = none := by simpa [Addr.add] using World.cell?_spot hv0
      subst hspot
      refine ⟨b, off, rfl, by simpa [Addr.add] using World.block_lt_of_cell? W _ hv0, fun i hil j hj => ?_⟩
      have := (hpick i hil).2 j hj
      simp only [Addr.add_lit] at this
      rw [this]
      simp [List.getD, hil]
    · simp only [List.mem_map, List.mem_range] at hy
      obtain ⟨i, hil, rfl⟩ := hy
      exact (hpick i hil).1

/-- How many elements a slice's datum has. -/
theorem openShape {t e : TypeId} {H : Type} {enc : TypeId × Value → H} {W : World} {a : Option Addr} {len cap : Nat} {d : DataW H} {ps : List MemPlace} (ht : Try.prog.underlying t = some (.slice e))
    (h : DataW.Trod enc Try.prog W 0 (fun _ => true) true t (.slice a len cap) d ps) : len = 0 ∨ ∃ el sp, d = .slice el sp ∧ el.length = len := by
  obtain ⟨fuel, hf⟩ := h
  rcases open_slice ht hf with ⟨hcs, _⟩ | ⟨x, l, c, m, n, D, Pl, hcs, _, _, _, _, hx, _⟩
  · simp [Value.cells] at hcs
    exact .inl hcs.2.1
  · simp [Value.cells] at hcs
    obtain ⟨rfl, rfl, rfl⟩ := hcs
    simp only [Prod.mk.injEq] at hx
    exact .inr ⟨_, _, hx.1, by simp⟩

theorem reachLen {H : Type} {ts : List TypeId} {ds : List (DataW H)} (hsz : (DataW.weightsEach Try.prog ts ds).all (· ≤ reachBytes) = true) {j : Nat} {t e : TypeId} {d : DataW H} {len : Nat} (ht : ts[j]? = some t) (hd : ds[j]? = some d) (hu : Try.prog.underlying t = some (.slice e)) (hb : 1 ≤ Try.prog.bytesOf e)
    (h : len = 0 ∨ ∃ el sp, d = .slice el sp ∧ el.length = len) : len ≤ 140737488351232 := by
  rcases h with rfl | ⟨el, sp, rfl, rfl⟩
  · omega
  · have h1 := sized_slice hsz ht hd hu
    have h2 : el.length + sp.length ≤ (el.length + sp.length) * Try.prog.bytesOf e := Nat.le_mul_of_pos_right _ hb
    have h3 : reachBytes < 2 ^ 47 := reachBytes_lt
    simp only [reachBytes] at h1
    omega

def OpOk (o : Int × Int) : Prop := (0 ≤ o.1 ∧ o.1 ≤ 255) ∧ (-2147483648 ≤ o.2 ∧ o.2 ≤ 2147483647)

def ArgInt64s (w : World) (ao : Option Addr) (len cap : Nat) (zs : List Int) : Prop := Reads .i64 w ao len zs ∧ len ≤ cap ∧ len ≤ maxLen

theorem openInt64s {H : Type} {enc : TypeId × Value → H} {W : World} {a : Option Addr} {len cap : Nat} {d : DataW H} {ps : List MemPlace}
    (h : DataW.Trod enc Try.prog W 0 (fun _ => true) true 22 (.slice a len cap) d ps) : ∃ zs, ArgInt64s W a len cap zs := by
  obtain ⟨zs, h1, h2, h3, _⟩ := openNums Try.underlying22 Try.underlying2 (by kernel_rfl) h
  exact ⟨zs, h1, h2, h3⟩

theorem bytes_i64 : Try.prog.bytesOf 2 = 8 := by kernel_rfl

set_option maxRecDepth 100000 in
theorem openOp {r : Reach} {b0 : Nat} {H : Type} {enc : TypeId × Value → H} {W : World} {v : Value} {d : DataW H} {ps : List MemPlace} (hv : Value.okWide Try.prog W r b0 27 v)
    (h : DataW.Trod enc Try.prog W 0 (fun _ => true) true 27 v d ps) : ∃ k x : Int, v = .agg #[.int .u8 k, .int .i32 x] ∧ OpOk (k, x) := by
  obtain ⟨v0, v1, y0, y1, n, rfl, _, _, g0, g1⟩ := open_agg2 Try.underlying27 (by kernel_rfl) (by kernel_rfl) hv h
  obtain ⟨m0, e0, _, w0⟩ := DataW.trod_int Try.underlying5 g0
  obtain ⟨m1, e1, _, w1⟩ := DataW.trod_int Try.underlying21 g1
  simp only [List.cons.injEq, and_true] at e0 e1
  subst e0 e1
  exact ⟨m0, m1, rfl, bounds_u8 w0, bounds_i32 w1⟩

set_option maxRecDepth 100000 in
theorem openRes {r : Reach} {b0 : Nat} {H : Type} {enc : TypeId × Value → H} {W : World} {v : Value} {d : DataW H} {ps : List MemPlace} (hv : Value.okWide Try.prog W r b0 49 v)
    (h : DataW.Trod enc Try.prog W 0 (fun _ => true) true 49 v d ps) : ∃ k x : Int, v = .agg #[.int .u8 k, .int .i32 x] ∧ OpOk (k, x) := by
  obtain ⟨v0, v1, y0, y1, n, rfl, _, _, g0, g1⟩ := open_agg2 Try.underlying49 (by kernel_rfl) (by kernel_rfl) hv h
  obtain ⟨m0, e0, _, w0⟩ := DataW.trod_int Try.underlying5 g0
  obtain ⟨m1, e1, _, w1⟩ := DataW.trod_int Try.underlying21 g1
  simp only [List.cons.injEq, and_true] at e0 e1
  subst e0 e1
  exact ⟨m0, m1, rfl, bounds_u8 w0, bounds_i32 w1⟩

end Go.Proofs.Ythefdglocnalhaa
