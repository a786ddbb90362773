/-
  A list of deeds that came in: each deed's kind and its own list of bytes. Conditions: none.
-/
import Derived.Test.YtkpjgekhcjjlpaaArgs6
namespace Go.Proofs.Ytkpjgekhcjjlpaa
open Go.RowKit Go.ChangeShapes Go.WideShapes Go.Deep

/-- A deed: its kind; where its bytes lie, how many there are, what room they have, and which they are. -/
structure Deed6 where
  k : Int
  ao : Option Addr
  n : Nat
  cap : Nat
  zs : List Int
def Deed6.cells (x : Deed6) : List Value := [.int .u8 x.k, .slice x.ao x.n x.cap]
def Deed6.no : Deed6 := ⟨0, none, 0, 0, []⟩
def Deed6.good (W : World) (x : Deed6) : Prop := (0 ≤ x.k ∧ x.k ≤ 255) ∧ ArgBytes W x.ao x.n x.cap x.zs ∧ x.n ≤ 140737488351232

/-- A slice's elements are these deeds. -/
def DeedsAt (w : World) (ao : Option Addr) (len : Nat) (xs : List Deed6) : Prop :=
  xs.length = len ∧ (0 < len → ∃ b off, ao = some ⟨b, off, none⟩ ∧ b < w.heap.size ∧ ∀ i, i < len → w.cell? ⟨b, off + i * 2, none⟩ = some (.int .u8 (xs.getD i Deed6.no).k) ∧ w.cell? ⟨b, off + i * 2 + 1, none⟩ = some (.slice (xs.getD i Deed6.no).ao (xs.getD i Deed6.no).n (xs.getD i Deed6.no).cap))

theorem DeedsAt.keep {w w' : World} {ao : Option Addr} {len : Nat} {xs : List Deed6} (h : DeedsAt w ao len xs) (hb : Below w.heap.size w w') : DeedsAt w' ao len xs := by
  refine ⟨h.1, fun hp => ?_⟩
  obtain ⟨b, off, e, hl, hc⟩ := h.2 hp
  exact ⟨b, off, e, Nat.lt_of_lt_of_le hl hb.size, fun i hi => ⟨(hb.cell (p := ⟨b, _, none⟩) hl).trans (hc i hi).1, (hb.cell (p := ⟨b, _, none⟩) hl).trans (hc i hi).2⟩⟩

def ArgDeeds (w : World) (ao : Option Addr) (len cap : Nat) (xs : List Deed6) : Prop := DeedsAt w ao len xs ∧ len ≤ cap ∧ len ≤ maxLen ∧ ∀ x ∈ xs, x.good w

theorem deedFields6 : ∃ f0 f1 : Field, Try.prog.underlying 25 = some (.struct #[f0, f1]) ∧ f0.type = 5 ∧ f0.offset = 0 ∧ f1.type = 23 ∧ f1.offset = 1 :=
  ⟨_, _, Try.underlying25, rfl, rfl, rfl, rfl⟩
theorem bytes_deed6 : Try.prog.bytesOf 25 = 32 := by kernel_rfl
theorem cells_deed6 : Try.prog.cellsOf 25 = 2 := by kernel_rfl
theorem cells_u8 : Try.prog.cellsOf 5 = 1 := by kernel_rfl
theorem cells_u8s : Try.prog.cellsOf 23 = 1 := by kernel_rfl

/-- A slice's datum in the midst: how many there are. -/
theorem nestLen {H : Type} {t e : TypeId} {d : DataW H} {len : Nat} (hu : Try.prog.underlying t = some (.slice e)) (hb : 1 ≤ Try.prog.bytesOf e) (hw : ∀ m ∈ d.weights Try.prog t, decide (m ≤ reachBytes) = true)
    (h : len = 0 ∨ ∃ el sp, d = .slice el sp ∧ el.length = len) : len ≤ 140737488351232 := by
  rcases h with rfl | ⟨el, sp, rfl, rfl⟩
  · omega
  · have h1 := hw ((el.length + sp.length) * Try.prog.bytesOf e) (by simp [DataW.weights, hu])
    have h1' : (el.length + sp.length) * Try.prog.bytesOf e ≤ reachBytes := by simpa using h1
    have h2 : el.length + sp.length ≤ (el.length + sp.length) * Try.prog.bytesOf e := Nat.le_mul_of_pos_right _ hb
    simp only [reachBytes] at h1'
    omega

theorem deedCells6 {H : Type} {enc : TypeId × Value → H} {W : World} {fuel : Nat} {cs : List Value} {y : DataW H × List MemPlace} (hl : cs.length = 2) (hw : ∀ m ∈ y.1.weights Try.prog 25, decide (m ≤ reachBytes) = true)
    (h : DataW.trod enc Try.prog W 0 (fun _ => true) true fuel 25 cs = some y) : ∃ x : Deed6, cs = x.cells ∧ x.good W := by
  obtain ⟨f0, f1, hs, t0, o0, t1, o1⟩ := deedFields6
  match cs, hl with
  | [c0, c1], _ =>
    obtain ⟨xs, n, _, hy, _, hx, hf⟩ := DataW.trod_struct hs h
    match xs, hx with
    | [y0, y1], _ =>
      have g0 := hf 0 f0 rfl
      have g1 := hf 1 f1 rfl
      rw [o0, t0, cells_u8] at g0
      rw [o1, t1, cells_u8s] at g1
      simp only [List.drop_zero, List.drop_succ_cons, List.take_succ_cons, List.take_zero] at g0 g1
      obtain ⟨m0, e0, _, w0⟩ := DataW.trod_int Try.underlying5 g0
      simp only [List.cons.injEq, and_true] at e0
      subst e0
      have hT : DataW.trod enc Try.prog W 0 (fun _ => true) true n 23 [c1] = some y1 := g1
      obtain ⟨ao, len, cap, rfl⟩ : ∃ ao len cap, c1 = .slice ao len cap := by
        rcases DataW.trod_slice Try.underlying23 hT with ⟨e, _⟩ | ⟨a, len, cap, _, _, _, _, e, _⟩
        · exact ⟨none, 0, 0, by simpa using e⟩
        · exact ⟨some a, len, cap, by simpa using e⟩
      have hTr : DataW.Trod enc Try.prog W 0 (fun _ => true) true 23 (.slice ao len cap) y1.1 y1.2 := ⟨n, by simpa [Value.cells] using hT⟩
      obtain ⟨zs, hz⟩ := openBytes hTr
      have hlen := nestLen (d := y1.1) Try.underlying23 (by rw [bytes_u8]; omega) (fun m hm => hw m (by
        rw [hy]
        simp [DataW.weights, DataW.weightsEach, hs, t0, t1]
        exact .inr hm)) (openShape Try.underlying23 hTr)
      exact ⟨⟨m0, ao, len, cap, zs⟩, rfl, bounds_u8 w0, hz, hlen⟩

theorem weights_all {H : Type} {P : Program} {e : TypeId} {d : DataW H} : ∀ {ds : List (DataW H)}, d ∈ ds → ∀ m ∈ d.weights P e, m ∈ DataW.weightsAll P e ds
  | d0 :: ds, hd, m, hm => by
    simp only [DataW.weightsAll, List.mem_append]
    rcases List.mem_cons.1 hd with rfl | hd
    · exact .inl hm
    · exact .inr (weights_all hd m hm)

theorem openDeeds6 {H : Type} {enc : TypeId × Value → H} {W : World} {a : Option Addr} {len cap : Nat} {d : DataW H} {ps : List MemPlace}
    (h : DataW.Trod enc Try.prog W 0 (fun _ => true) true 22 (.slice a len cap) d ps) (hw : ∀ m ∈ d.weights Try.prog 22, decide (m ≤ reachBytes) = true) : ∃ xs, ArgDeeds W a len cap xs := by
  obtain ⟨fuel, hf⟩ := h
  rcases open_slice Try.underlying22 hf with ⟨hcs, _⟩ | ⟨x, l, c, m, n, D, Pl, hcs, _, hl, hm, hmm, hx, hi⟩
  · simp [Value.cells] at hcs
    obtain ⟨rfl, rfl, rfl⟩ := hcs
    exact ⟨[], ⟨rfl, fun h => by omega⟩, by omega, by simp [maxLen], by simp⟩
  · simp [Value.cells] at hcs
    obtain ⟨rfl, rfl, rfl⟩ := hcs
    simp only [if_true] at hmm
    simp only [Prod.mk.injEq] at hx
    rw [cells_deed6] at hi
    have each : ∀ i, i < len → ∃ y : Deed6, y.good W ∧ ∀ j, j < 2 → W.cell? ((x.add (i * 2)).add j) = y.cells[j]? := by
      intro i hil
      obtain ⟨cs', hcl', ht'⟩ := hi i (by omega)
      obtain ⟨_, hcl, hat⟩ := World.cells?_some hcl'
      obtain ⟨y, rfl, g⟩ := deedCells6 hcl (fun m hm => hw m (by
        rw [hx.1]
        simp only [DataW.weights, Try.underlying22, List.mem_cons, List.mem_append]
        exact .inr (.inl (weights_all (d := D i) (by simp only [List.mem_map, List.mem_range]; exact ⟨i, hil, rfl⟩) m hm)))) ht'
      exact ⟨y, g, hat⟩
    have pick : ∃ f : Nat → Deed6, ∀ i, i < len → (f i).good W ∧ ∀ j, j < 2 → W.cell? ((x.add (i * 2)).add j) = (f i).cells[j]? :=
      ⟨fun i => if h : i < len then Classical.choose (each i h) else Deed6.no, fun i hil => by simp only [dif_pos hil]; exact Classical.choose_spec (each i hil)⟩
    obtain ⟨f, hpick⟩ := pick
    refine ⟨(List.range len).map f, ⟨by simp, fun hp => ?_⟩, by omega, by omega, fun y hy => ?_⟩
    · obtain ⟨b, off, spot⟩ := x
      have hc0 := (hpick 0 hp).2 0 (by omega)
      obtain ⟨v0, hv0⟩ : ∃ v0, W.cell? (((⟨b, off, spot⟩ : Addr).add (0 * 2)).add 0) = some v0 := ⟨_, by rw [hc0]; rfl⟩
      have hspot : spot = none := by simpa [Addr.add] using World.cell?_spot hv0
      subst hspot
      have hc0' : W.cell? ⟨b, off, none⟩ = some (.int .u8 (f 0).k) := by simpa [Deed6.cells, Addr.add] using hc0
      refine ⟨b, off, rfl, World.block_lt_of_cell? W _ hc0', fun i hil => ?_⟩
      have h0 := (hpick i hil).2 0 (by omega)
      have h1 := (hpick i hil).2 1 (by omega)
      simp only [Addr.add_lit] at h0 h1
      refine ⟨?_, ?_⟩
      · rw [show off + i * 2 = off + i * 2 + 0 by omega, h0]; simp [Deed6.cells, List.getD, hil]
      · rw [h1]; simp [Deed6.cells, List.getD, hil]
    · simp only [List.mem_map, List.mem_range] at hy
      obtain ⟨i, hil, rfl⟩ := hy
      exact (hpick i hil).1

/-- How many things there are in the first k deeds, and deeds in all. -/
def sumN (xs : List Deed6) (k : Nat) : Nat := xs.length + ((xs.take k).map Deed6.n).sum
theorem sumN_zero (xs : List Deed6) : sumN xs 0 = xs.length := by simp [sumN]
theorem sumN_succ (xs : List Deed6) (k : Nat) (h : k < xs.length) : sumN xs (k + 1) = sumN xs k + (xs.getD k Deed6.no).n := by
  unfold sumN
  rw [List.take_succ_eq_append_getElem h, List.map_append, List.sum_append, show xs.getD k Deed6.no = xs[k] by simp [List.getD, h]]
  simp only [List.map_cons, List.map_nil, List.sum_cons, List.sum_nil]
  omega
theorem mem_sum : ∀ {l : List Nat} {x : Nat}, x ∈ l → x ≤ l.sum
  | y :: l, x, h => by
    rw [List.sum_cons]
    rcases List.mem_cons.1 h with rfl | h
    · omega
    · have := mem_sum h; omega
theorem sumN_all (xs : List Deed6) (k : Nat) (hk : k < xs.length) (h : sumN xs xs.length ≤ 300) : (xs.getD k Deed6.no).n ≤ 300 ∧ xs.length ≤ 300 := by
  unfold sumN at h
  rw [List.take_length] at h
  have : (xs.getD k Deed6.no).n ≤ (xs.map Deed6.n).sum := by
    have hm : (xs.getD k Deed6.no).n ∈ xs.map Deed6.n := by
      rw [List.mem_map]
      exact ⟨xs[k], List.getElem_mem hk, by simp [List.getD, hk]⟩
    exact mem_sum hm
  omega

end Go.Proofs.Ytkpjgekhcjjlpaa
