/-
  A list of deeds that came in: each deed's kind, value, height, and its own lists of values and heights. Conditions: none.
-/
import Derived.Test.YtjcdbdhdmalfaaaArgs7
namespace Go.Proofs.Ytjcdbdhdmalfaaa
open Go.RowKit Go.ChangeShapes Go.WideShapes Go.Deep

/-- A deed: its kind, value and height; where its values and its heights lie, how many there are, what room they have, and which they are. -/
structure Deed7 where
  k : Int
  v : Int
  h : Int
  vo : Option Addr
  n : Nat
  cv : Nat
  vs : List Int
  ho : Option Addr
  m : Nat
  ch : Nat
  hs : List Int
def Deed7.cells (x : Deed7) : List Value := [.int .u8 x.k, .int .i32 x.v, .int .i64 x.h, .slice x.vo x.n x.cv, .slice x.ho x.m x.ch]
def Deed7.no : Deed7 := ⟨0, 0, 0, none, 0, 0, [], none, 0, 0, []⟩
def Deed7.good (W : World) (x : Deed7) : Prop := (0 ≤ x.k ∧ x.k ≤ 255) ∧ (ArgInt32s W x.vo x.n x.cv x.vs ∧ x.n ≤ 140737488351232) ∧ ArgInts W x.ho x.m x.ch x.hs ∧ x.m ≤ 140737488351232

/-- A slice's elements are these deeds. -/
def DeedsAt (w : World) (ao : Option Addr) (len : Nat) (xs : List Deed7) : Prop :=
  xs.length = len ∧ (0 < len → ∃ b off, ao = some ⟨b, off, none⟩ ∧ b < w.heap.size ∧ ∀ i, i < len → ∀ j u, (xs.getD i Deed7.no).cells[j]? = some u → w.cell? ⟨b, off + i * 5 + j, none⟩ = some u)

theorem DeedsAt.keep {w w' : World} {ao : Option Addr} {len : Nat} {xs : List Deed7} (h : DeedsAt w ao len xs) (hb : Below w.heap.size w w') : DeedsAt w' ao len xs := by
  refine ⟨h.1, fun hp => ?_⟩
  obtain ⟨b, off, e, hl, hc⟩ := h.2 hp
  exact ⟨b, off, e, Nat.lt_of_lt_of_le hl hb.size, fun i hi j u hu => (hb.cell (p := ⟨b, _, none⟩) hl).trans (hc i hi j u hu)⟩

def ArgDeeds (w : World) (ao : Option Addr) (len cap : Nat) (xs : List Deed7) : Prop := DeedsAt w ao len xs ∧ len ≤ cap ∧ len ≤ maxLen ∧ ∀ x ∈ xs, x.good w

theorem deedFields7 : ∃ f0 f1 f2 f3 f4 : Field, Try.prog.underlying 31 = some (.struct #[f0, f1, f2, f3, f4]) ∧ (f0.type = 5 ∧ f0.offset = 0) ∧ (f1.type = 21 ∧ f1.offset = 1) ∧ (f2.type = 3 ∧ f2.offset = 2) ∧ (f3.type = 26 ∧ f3.offset = 3) ∧ f4.type = 27 ∧ f4.offset = 4 :=
  ⟨_, _, _, _, _, Try.underlying31, ⟨rfl, rfl⟩, ⟨rfl, rfl⟩, ⟨rfl, rfl⟩, ⟨rfl, rfl⟩, rfl, rfl⟩
theorem bytes_deed7 : Try.prog.bytesOf 31 = 64 := by kernel_rfl
theorem cells_deed7 : Try.prog.cellsOf 31 = 5 := by kernel_rfl
theorem cells_u8 : Try.prog.cellsOf 5 = 1 := by kernel_rfl
theorem cells_i32 : Try.prog.cellsOf 21 = 1 := by kernel_rfl
theorem cells_int : Try.prog.cellsOf 3 = 1 := by kernel_rfl
theorem cells_i32s : Try.prog.cellsOf 26 = 1 := by kernel_rfl
theorem cells_ints : Try.prog.cellsOf 27 = 1 := by kernel_rfl

/-- A slice's datum in the midst: how many there are. -/
theorem nestLen {H : Type} {t e : TypeId} {d : DataW H} {len : Nat} (hu : Try.prog.underlying t = some (.slice e)) (hb : 1 ≤ Try.prog.bytesOf e) (hw : ∀ m ∈ d.weights Try.prog t, decide (m ≤ reachBytes) = true)
    (h : len = 0 ∨ ∃ el sp, d = .slice el sp ∧ el.length = len) : len ≤ 140737488351232 := by
  rcases h with rfl | ⟨el, sp, rfl, rfl⟩
  · omega
  · have h1 := hw ((el.length + sp.length) * Try.prog.bytesOf e) (by simp [DataW.weights, hu])
    have h1' : (el.length + sp.length) * Try.prog.bytesOf e ≤ reachBytes := by simpa using h1
    have h2 : el.length + sp.length ≤ (el.length + sp.length) * Try.prog.bytesOf e := Nat.le_mul_of_pos_right _ hb
    simp only [reachBytes] at h1'
    omega

theorem sliceShape {H : Type} {enc : TypeId × Value → H} {W : World} {n : Nat} {t e : TypeId} {c : Value} {y : DataW H × List MemPlace} (hu : Try.prog.underlying t = some (.slice e)) (hT : DataW.trod enc Try.prog W 0 (fun _ => true) true n t [c] = some y) : ∃ ao len cap, c = .slice ao len cap := by
  rcases DataW.trod_slice hu hT with ⟨e, _⟩ | ⟨a, len, cap, _, _, _, _, e, _⟩
  · exact ⟨none, 0, 0, by simpa using e⟩
  · exact ⟨some a, len, cap, by simpa using e⟩

theorem deedCells7 {H : Type} {enc : TypeId × Value → H} {W : World} {fuel : Nat} {cs : List Value} {y : DataW H × List MemPlace} (hl : cs.length = 5) (hw : ∀ m ∈ y.1.weights Try.prog 31, decide (m ≤ reachBytes) = true)
    (h : DataW.trod enc Try.prog W 0 (fun _ => true) true fuel 31 cs = some y) : ∃ x : Deed7, cs = x.cells ∧ x.good W := by
  obtain ⟨f0, f1, f2, f3, f4, hs, ⟨t0, o0⟩, ⟨t1, o1⟩, ⟨t2, o2⟩, ⟨t3, o3⟩, t4, o4⟩ := deedFields7
  match cs, hl with
  | [c0, c1, c2, c3, c4], _ =>
    obtain ⟨xs, n, _, hy, _, hx, hf⟩ := DataW.trod_struct hs h
    match xs, hx with
    | [y0, y1, y2, y3, y4], _ =>
      have g0 := hf 0 f0 rfl
      have g1 := hf 1 f1 rfl
      have g2 := hf 2 f2 rfl
      have g3 := hf 3 f3 rfl
      have g4 := hf 4 f4 rfl
      rw [o0, t0, cells_u8] at g0
      rw [o1, t1, cells_i32] at g1
      rw [o2, t2, cells_int] at g2
      rw [o3, t3, cells_i32s] at g3
      rw [o4, t4, cells_ints] at g4
      simp only [List.drop_zero, List.drop_succ_cons, List.take_succ_cons, List.take_zero] at g0 g1 g2 g3 g4
      obtain ⟨m0, e0, _, w0⟩ := DataW.trod_int Try.underlying5 g0
      obtain ⟨m1, e1, _, w1⟩ := DataW.trod_int Try.underlying21 g1
      obtain ⟨m2, e2, _, w2⟩ := DataW.trod_int Try.underlying3 g2
      simp only [List.cons.injEq, and_true] at e0 e1 e2
      subst e0 e1 e2
      have hT3 : DataW.trod enc Try.prog W 0 (fun _ => true) true n 26 [c3] = some y3 := g3
      have hT4 : DataW.trod enc Try.prog W 0 (fun _ => true) true n 27 [c4] = some y4 := g4
      obtain ⟨vo, len, cap, rfl⟩ := sliceShape Try.underlying26 hT3
      obtain ⟨ho, len', cap', rfl⟩ := sliceShape Try.underlying27 hT4
      have hTr3 : DataW.Trod enc Try.prog W 0 (fun _ => true) true 26 (.slice vo len cap) y3.1 y3.2 := ⟨n, by simpa [Value.cells] using hT3⟩
      have hTr4 : DataW.Trod enc Try.prog W 0 (fun _ => true) true 27 (.slice ho len' cap') y4.1 y4.2 := ⟨n, by simpa [Value.cells] using hT4⟩
      obtain ⟨zs, hz⟩ := openInt32s hTr3
      obtain ⟨us, hu⟩ := openInts hTr4
      have hlen := nestLen (d := y3.1) Try.underlying26 (by rw [bytes_i32]; omega) (fun m hm => hw m (by
        rw [hy]
        simp [DataW.weights, DataW.weightsEach, hs, t0, t1, t2, t3, t4]
        exact .inr (.inr (.inr (.inl hm))))) (openShape Try.underlying26 hTr3)
      have hlen' := nestLen (d := y4.1) Try.underlying27 (by rw [bytes_int]; omega) (fun m hm => hw m (by
        rw [hy]
        simp [DataW.weights, DataW.weightsEach, hs, t0, t1, t2, t3, t4]
        exact .inr (.inr (.inr (.inr hm))))) (openShape Try.underlying27 hTr4)
      exact ⟨⟨m0, m1, m2, vo, len, cap, zs, ho, len', cap', us⟩, rfl, bounds_u8 w0, ⟨hz, hlen⟩, hu, hlen'⟩

theorem weights_all {H : Type} {P : Program} {e : TypeId} {d : DataW H} : ∀ {ds : List (DataW H)}, d ∈ ds → ∀ m ∈ d.weights P e, m ∈ DataW.weightsAll P e ds
  | d0 :: ds, hd, m, hm => by
    simp only [DataW.weightsAll, List.mem_append]
    rcases List.mem_cons.1 hd with rfl | hd
    · exact .inl hm
    · exact .inr (weights_all hd m hm)

theorem openDeeds7 {H : Type} {enc : TypeId × Value → H} {W : World} {a : Option Addr} {len cap : Nat} {d : DataW H} {ps : List MemPlace}
    (h : DataW.Trod enc Try.prog W 0 (fun _ => true) true 22 (.slice a len cap) d ps) (hw : ∀ m ∈ d.weights Try.prog 22, decide (m ≤ reachBytes) = true) : ∃ xs, ArgDeeds W a len cap xs := by
  obtain ⟨fuel, hf⟩ := h
  rcases open_slice Try.underlying22 hf with ⟨hcs, _⟩ | ⟨x, l, c, m, n, D, Pl, hcs, _, hl, hm, hmm, hx, hi⟩
  · simp [Value.cells] at hcs
    obtain ⟨rfl, rfl, rfl⟩ := hcs
    exact ⟨[], ⟨rfl, fun h => by omega⟩, by omega, by simp [maxLen], by simp⟩
  · simp [Value.cells] at hcs
    obtain ⟨rfl, rfl, rfl⟩ := hcs
    simp only [if_true] at hmm
    simp only [Prod.mk.injEq] at hx
    rw [cells_deed7] at hi
    have each : ∀ i, i < len → ∃ y : Deed7, y.good W ∧ ∀ j, j < 5 → W.cell? ((x.add (i * 5)).add j) = y.cells[j]? := by
      intro i hil
      obtain ⟨cs', hcl', ht'⟩ := hi i (by omega)
      obtain ⟨_, hcl, hat⟩ := World.cells?_some hcl'
      obtain ⟨y, rfl, g⟩ := deedCells7 hcl (fun m hm => hw m (by
        rw [hx.1]
        simp only [DataW.weights, Try.underlying22, List.mem_cons, List.mem_append]
        exact .inr (.inl (weights_all (d := D i) (by simp only [List.mem_map, List.mem_range]; exact ⟨i, hil, rfl⟩) m hm)))) ht'
      exact ⟨y, g, hat⟩
    have pick : ∃ f : Nat → Deed7, ∀ i, i < len → (f i).good W ∧ ∀ j, j < 5 → W.cell? ((x.add (i * 5)).add j) = (f i).cells[j]? :=
      ⟨fun i => if h : i < len then Classical.choose (each i h) else Deed7.no, fun i hil => by simp only [dif_pos hil]; exact Classical.choose_spec (each i hil)⟩
    obtain ⟨f, hpick⟩ := pick
    refine ⟨(List.range len).map f, ⟨by simp, fun hp => ?_⟩, by omega, by omega, fun y hy => ?_⟩
    · obtain ⟨b, off, spot⟩ := x
      have hc0 := (hpick 0 hp).2 0 (by omega)
      obtain ⟨v0, hv0⟩ : ∃ v0, W.cell? (((⟨b, off, spot⟩ : Addr).add (0 * 5)).add 0) = some v0 := ⟨_, by rw [hc0]; rfl⟩
      have hspot : spot = none := by simpa [Addr.add] using World.cell?_spot hv0
      subst hspot
      have hc0' : W.cell? ⟨b, off, none⟩ = some v0 := by simpa [Addr.add] using hv0
      refine ⟨b, off, rfl, World.block_lt_of_cell? W _ hc0', fun i hil j u hu => ?_⟩
      have he : ((List.range len).map f).getD i Deed7.no = f i := by simp [List.getD, hil]
      rw [he] at hu
      have hj : j < 5 := by
        rcases Nat.lt_or_ge j 5 with h1 | h1
        · exact h1
        · rw [List.getElem?_eq_none (by simpa [Deed7.cells] using h1)] at hu
          cases hu
      have h0 := (hpick i hil).2 j hj
      simp only [Addr.add_lit] at h0
      rw [h0, hu]
    · simp only [List.mem_map, List.mem_range] at hy
      obtain ⟨i, hil, rfl⟩ := hy
      exact (hpick i hil).1

/-- How many things there are in the first k deeds, counted as Heavy counts. -/
def sumN (xs : List Deed7) (k : Nat) : Nat := ((xs.take k).map fun x => 2 + x.n + x.m).sum
theorem sumN_succ (xs : List Deed7) (k : Nat) (h : k < xs.length) : sumN xs (k + 1) = sumN xs k + (2 + (xs.getD k Deed7.no).n + (xs.getD k Deed7.no).m) := by
  unfold sumN
  rw [List.take_succ_eq_append_getElem h, List.map_append, List.sum_append, show xs.getD k Deed7.no = xs[k] by simp [List.getD, h]]
  simp only [List.map_cons, List.map_nil, List.sum_cons, List.sum_nil]
  omega
theorem mem_sum : ∀ {l : List Nat} {x : Nat}, x ∈ l → x ≤ l.sum
  | y :: l, x, h => by
    rw [List.sum_cons]
    rcases List.mem_cons.1 h with rfl | h
    · omega
    · have := mem_sum h; omega
theorem sumN_all (xs : List Deed7) (x : Deed7) (hx : x ∈ xs) : 2 + x.n + x.m ≤ sumN xs xs.length := by
  unfold sumN
  rw [List.take_length]
  exact mem_sum (List.mem_map.2 ⟨x, hx, rfl⟩)

end Go.Proofs.Ytjcdbdhdmalfaaa
