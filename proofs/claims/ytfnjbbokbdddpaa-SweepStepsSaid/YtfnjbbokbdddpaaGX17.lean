/-
  What the law of SweepSteps asks more of the elder texts: lists of int64 that came in, rows that came in, the count of a memory's steps. Conditions: none.
-/
import Derived.Test.YtfnjbbokbdddpaaG0117
namespace Go.Proofs.Ytfnjbbokbdddpaa
open Go.RowKit Go.ChangeShapes Go.WideShapes Go.Deep Go.Joins
theorem openRows {α : Type} (cells : α → List Value) (dflt : α) (size : Nat) (good : α → Prop) (hcells : ∀ x, (cells x).length = size) (h0 : 0 < size) {t e : TypeId} {H : Type} {enc : TypeId × Value → H} {W : World} {a : Option Addr} {len cap : Nat} {d : DataW H} {ps : List MemPlace} (ht : Try.prog.underlying t = some (.slice e)) (hc : Try.prog.cellsOf e = size)
    (hone : ∀ {fuel : Nat} {cs : List Value} {y : DataW H × List MemPlace}, cs.length = size → DataW.trod enc Try.prog W 0 (fun _ => true) true fuel e cs = some y → ∃ x, cs = cells x ∧ good x)
    (h : DataW.Trod enc Try.prog W 0 (fun _ => true) true t (.slice a len cap) d ps) :
    ∃ xs : List α, xs.length = len ∧ (0 < len → ∃ b off, a = some ⟨b, off, none⟩ ∧ b < W.heap.size ∧ ∀ i, i < len → ∀ j, j < size → W.cell? ⟨b, off + i * size + j, none⟩ = (cells (xs.getD i dflt))[j]?) ∧ len ≤ cap ∧ len ≤ maxLen ∧ ∀ x ∈ xs, good x := by
  obtain ⟨fuel, hf⟩ := h
  rcases open_slice ht hf with ⟨hcs, _⟩ | ⟨x, l, c, m, n, D, Pl, hcs, _, hl, hm, hmm, _, hi⟩
  · simp [Value.cells] at hcs
    obtain ⟨rfl, rfl, rfl⟩ := hcs
    exact ⟨[], rfl, fun h => by omega, by omega, by simp [maxLen], by simp⟩
  · simp [Value.cells] at hcs
    obtain ⟨rfl, rfl, rfl⟩ := hcs
    simp only [if_true] at hmm
    rw [hc] at hi
    have each : ∀ i, i < len → ∃ y : α, good y ∧ ∀ j, j < size → W.cell? ((x.add (i * size)).add j) = (cells y)[j]? := by
      intro i hil
      obtain ⟨cs', hcl', ht'⟩ := hi i (by omega)
      obtain ⟨_, hcl, hat⟩ := World.cells?_some hcl'
      obtain ⟨y, rfl, g⟩ := hone hcl ht'
      exact ⟨y, g, hat⟩
    have pick : ∃ f : Nat → α, ∀ i, i < len → good (f i) ∧ ∀ j, j < size → W.cell? ((x.add (i * size)).add j) = (cells (f i))[j]? :=
      ⟨fun i => if h : i < len then Classical.choose (each i h) else dflt, fun i hil => by simp only [dif_pos hil]; exact Classical.choose_spec (each i hil)⟩
    obtain ⟨f, hpick⟩ := pick
    refine ⟨(List.range len).map f, by simp, fun hp => ?_, by omega, by omega, fun y hy => ?_⟩
    · obtain ⟨b, off, spot⟩ := x
      have hc0 : ∃ v, W.cell? (((⟨b, off, spot⟩ : Addr).add (0 * size)).add 0) = some v := by
        rw [(hpick 0 hp).2 0 h0]
        exact ⟨_, List.getElem?_eq_getElem (by rw [hcells]; exact h0)⟩
      obtain ⟨v0, hv0⟩ := hc0
      have hspot : spot = none := by simpa [Addr.add] using World.cell?_spot hv0
      subst hspot
      refine ⟨b, off, rfl, by simpa [Addr.add] using World.block_lt_of_cell? W _ hv0, fun i hil j hj => ?_⟩
      have := (hpick i hil).2 j hj
      simp only [Addr.add_lit] at this
      rw [this]
      simp [List.getD, hil]
    · simp only [List.mem_map, List.mem_range] at hy
      obtain ⟨i, hil, rfl⟩ := hy
      exact (hpick i hil).1
end Go.Proofs.Ytfnjbbokbdddpaa
namespace Go.Proofs.Ytfnjbbokbdddpaa
open Go.RowKit Go.ChangeShapes Go.WideShapes Go.Deep Go.Joins
def ArgInt64s (w : World) (ao : Option Addr) (len cap : Nat) (zs : List Int) : Prop := Reads .i64 w ao len zs ∧ len ≤ cap ∧ len ≤ maxLen

theorem openInt64s {H : Type} {enc : TypeId × Value → H} {W : World} {a : Option Addr} {len cap : Nat} {d : DataW H} {ps : List MemPlace}
    (h : DataW.Trod enc Try.prog W 0 (fun _ => true) true 22 (.slice a len cap) d ps) : ∃ zs, ArgInt64s W a len cap zs := by
  obtain ⟨zs, h1, h2, h3, _⟩ := openNums Try.underlying22 Try.underlying2 (by kernel_rfl) h
  exact ⟨zs, h1, h2, h3⟩

theorem bytes_i64 : Try.prog.bytesOf 2 = 8 := by kernel_rfl
end Go.Proofs.Ytfnjbbokbdddpaa
namespace Go.Proofs.Ytfnjbbokbdddpaa.M2
open Go.RowKit
section
variable {w : World} {B p : Nat} {v : Value} {size : Int} {zs : List Int} {st : Int}
theorem stepsAny (h : Mem w B p v size zs st) :
    Calls Try.prog 31 #[.pointer (some ⟨p, 0, none⟩)] w fun e w' => e = .returned (.int .i64 st) ∧ w = w' := by
  have c2 := h.c2
  have H := Lib.hid h
  clear h
  go_enter Try.func31, Try.ntmps31
  go_wp2
  go_ret
  exact ⟨rfl, rfl⟩
end
end Go.Proofs.Ytfnjbbokbdddpaa.M2
namespace Go.Proofs.Ytfnjbbokbdddpaa.M2
open Go.RowKit
section
variable {w : World} {B p : Nat} {size : Int} {zs : List Int} {st : Int}
theorem steps1 (h : Mem1 w B p size zs st) :
    Calls Try.prog 31 #[.pointer (some ⟨p, 0, none⟩)] w fun e w' => e = .returned (.int .i64 st) ∧ w = w' := by
  obtain ⟨v, m⟩ := h
  exact stepsAny m
end
end Go.Proofs.Ytfnjbbokbdddpaa.M2
