/-
  A list of deeds that came in: each deed's kind, and its own lists of bits and operations. Conditions: none. Deeds of one's own, in a row that grows; how much there is of deeds. Conditions: none.
-/
import Derived.Test.YtniefplgijpckaaGreatBasA12
import Derived.Test.YtniefplgijpckaaGreatKn12m
namespace Go.Proofs.YtniefplgijpckaaGreat
open Go.RowKit Go.ChangeShapes Go.WideShapes Go.Deep

/-- A deed: its kind; where its bytes and its operations lie, how many there are, what room they have, and which they are. -/
structure Deed12 where
  k : Int
  bo : Option Addr
  nb : Nat
  cb : Nat
  bs : List Int
  ao : Option Addr
  na : Nat
  ca : Nat
  os : List (Int × Int)
def Deed12.cells (x : Deed12) : List Value := [.int .u8 x.k, .slice x.bo x.nb x.cb, .slice x.ao x.na x.ca]
def Deed12.no : Deed12 := ⟨0, none, 0, 0, [], none, 0, 0, []⟩
def Deed12.good (W : World) (x : Deed12) : Prop := (0 ≤ x.k ∧ x.k ≤ 255) ∧ (ArgBytes W x.bo x.nb x.cb x.bs ∧ x.nb ≤ 140737488351232) ∧ ArgOps W x.ao x.na x.ca x.os ∧ x.na ≤ 140737488351232

/-- A slice's elements are these deeds. -/
def DeedsAt (w : World) (ao : Option Addr) (len : Nat) (xs : List Deed12) : Prop :=
  xs.length = len ∧ (0 < len → ∃ b off, ao = some ⟨b, off, none⟩ ∧ b < w.heap.size ∧ ∀ i, i < len → ∀ j u, (xs.getD i Deed12.no).cells[j]? = some u → w.cell? ⟨b, off + i * 3 + j, none⟩ = some u)

theorem DeedsAt.keep {w w' : World} {ao : Option Addr} {len : Nat} {xs : List Deed12} (h : DeedsAt w ao len xs) (hb : Below w.heap.size w w') : DeedsAt w' ao len xs := by
  refine ⟨h.1, fun hp => ?_⟩
  obtain ⟨b, off, e, hl, hc⟩ := h.2 hp
  exact ⟨b, off, e, Nat.lt_of_lt_of_le hl hb.size, fun i hi j u hu => (hb.cell (p := ⟨b, _, none⟩) hl).trans (hc i hi j u hu)⟩

def ArgDeeds (w : World) (ao : Option Addr) (len cap : Nat) (xs : List Deed12) : Prop := DeedsAt w ao len xs ∧ len ≤ cap ∧ len ≤ maxLen ∧ ∀ x ∈ xs, x.good w

theorem deedFields12 : ∃ f0 f1 f2 : Field, Tryz.prog.underlying 38 = some (.struct #[f0, f1, f2]) ∧ (f0.type = 5 ∧ f0.offset = 0) ∧ (f1.type = 23 ∧ f1.offset = 1) ∧ f2.type = 36 ∧ f2.offset = 2 :=
  ⟨_, _, _, Tryz.underlying38, ⟨rfl, rfl⟩, ⟨rfl, rfl⟩, rfl, rfl⟩
theorem bytes_deed12 : Tryz.prog.bytesOf 38 = 56 := by kernel_rfl
theorem cells_deed12 : Tryz.prog.cellsOf 38 = 3 := by kernel_rfl
theorem cells_u8s : Tryz.prog.cellsOf 23 = 1 := by kernel_rfl
theorem cells_ops : Tryz.prog.cellsOf 36 = 1 := by kernel_rfl

/-- A slice's datum in the midst: how many there are. -/
theorem nestLen {H : Type} {t e : TypeId} {d : DataW H} {len : Nat} (hu : Tryz.prog.underlying t = some (.slice e)) (hb : 1 ≤ Tryz.prog.bytesOf e) (hw : ∀ m ∈ d.weights Tryz.prog t, decide (m ≤ reachBytes) = true)
    (h : len = 0 ∨ ∃ el sp, d = .slice el sp ∧ el.length = len) : len ≤ 140737488351232 := by
  rcases h with rfl | ⟨el, sp, rfl, rfl⟩
  · omega
  · have h1 := hw ((el.length + sp.length) * Tryz.prog.bytesOf e) (by simp [DataW.weights, hu])
    have h1' : (el.length + sp.length) * Tryz.prog.bytesOf e ≤ reachBytes := by simpa using h1
    have h2 : el.length + sp.length ≤ (el.length + sp.length) * Tryz.prog.bytesOf e := Nat.le_mul_of_pos_right _ hb
    simp only [reachBytes] at h1'
    omega

theorem sliceShape {H : Type} {enc : TypeId × Value → H} {W : World} {n : Nat} {t e : TypeId} {c : Value} {y : DataW H × List MemPlace} (hu : Tryz.prog.underlying t = some (.slice e)) (hT : DataW.trod enc Tryz.prog W 0 (fun _ => true) true n t [c] = some y) : ∃ ao len cap, c = .slice ao len cap := by
  rcases DataW.trod_slice hu hT with ⟨e, _⟩ | ⟨a, len, cap, _, _, _, _, e, _⟩
  · exact ⟨none, 0, 0, by simpa using e⟩
  · exact ⟨some a, len, cap, by simpa using e⟩

set_option maxRecDepth 100000 in
theorem deedCells12 {H : Type} {enc : TypeId × Value → H} {W : World} {fuel : Nat} {cs : List Value} {y : DataW H × List MemPlace} (hl : cs.length = 3) (hw : ∀ m ∈ y.1.weights Tryz.prog 38, decide (m ≤ reachBytes) = true)
    (h : DataW.trod enc Tryz.prog W 0 (fun _ => true) true fuel 38 cs = some y) : ∃ x : Deed12, cs = x.cells ∧ x.good W := by
  obtain ⟨f0, f1, f2, hs, ⟨t0, o0⟩, ⟨t1, o1⟩, t2, o2⟩ := deedFields12
  match cs, hl with
  | [c0, c1, c2], _ =>
    obtain ⟨xs, n, _, hy, _, hx, hf⟩ := DataW.trod_struct hs h
    match xs, hx with
    | [y0, y1, y2], _ =>
      have g0 := hf 0 f0 rfl
      have g1 := hf 1 f1 rfl
      have g2 := hf 2 f2 rfl
      rw [o0, t0, cells_u8] at g0
      rw [o1, t1, cells_u8s] at g1
      rw [o2, t2, cells_ops] at g2
      simp only [List.drop_zero, List.drop_succ_cons, List.take_succ_cons, List.take_zero] at g0 g1 g2
      obtain ⟨m0, e0, _, w0⟩ := DataW.trod_int Tryz.underlying5 g0
      simp only [List.cons.injEq, and_true] at e0
      subst e0
      have hT1 : DataW.trod enc Tryz.prog W 0 (fun _ => true) true n 23 [c1] = some y1 := g1
      have hT2 : DataW.trod enc Tryz.prog W 0 (fun _ => true) true n 36 [c2] = some y2 := g2
      obtain ⟨bo, len, cap, rfl⟩ := sliceShape Tryz.underlying23 hT1
      obtain ⟨ao, len', cap', rfl⟩ := sliceShape Tryz.underlying36 hT2
      have hTr1 : DataW.Trod enc Tryz.prog W 0 (fun _ => true) true 23 (.slice bo len cap) y1.1 y1.2 := ⟨n, by simpa [Value.cells] using hT1⟩
      have hTr2 : DataW.Trod enc Tryz.prog W 0 (fun _ => true) true 36 (.slice ao len' cap') y2.1 y2.2 := ⟨n, by simpa [Value.cells] using hT2⟩
      obtain ⟨zs, hz⟩ := openBytes hTr1
      obtain ⟨us, hu⟩ := openOps hTr2
      have hlen := nestLen (d := y1.1) Tryz.underlying23 (by rw [bytes_u8]; omega) (fun m hm => hw m (by
        rw [hy]
        simp [DataW.weights, DataW.weightsEach, hs, t0, t1, t2]
        exact .inr (.inl hm))) (openShape Tryz.underlying23 hTr1)
      have hlen' := nestLen (d := y2.1) Tryz.underlying36 (by rw [bytes_op]; omega) (fun m hm => hw m (by
        rw [hy]
        simp [DataW.weights, DataW.weightsEach, hs, t0, t1, t2]
        exact .inr (.inr hm))) (openShape Tryz.underlying36 hTr2)
      exact ⟨⟨m0, bo, len, cap, zs, ao, len', cap', us⟩, rfl, bounds_u8 w0, ⟨hz, hlen⟩, hu, hlen'⟩

theorem weights_all {H : Type} {P : Program} {e : TypeId} {d : DataW H} : ∀ {ds : List (DataW H)}, d ∈ ds → ∀ m ∈ d.weights P e, m ∈ DataW.weightsAll P e ds
  | d0 :: ds, hd, m, hm => by
    simp only [DataW.weightsAll, List.mem_append]
    rcases List.mem_cons.1 hd with rfl | hd
    · exact .inl hm
    · exact .inr (weights_all hd m hm)

theorem openDeeds12 {H : Type} {enc : TypeId × Value → H} {W : World} {a : Option Addr} {len cap : Nat} {d : DataW H} {ps : List MemPlace}
    (h : DataW.Trod enc Tryz.prog W 0 (fun _ => true) true 22 (.slice a len cap) d ps) (hw : ∀ m ∈ d.weights Tryz.prog 22, decide (m ≤ reachBytes) = true) : ∃ xs, ArgDeeds W a len cap xs := by
  obtain ⟨fuel, hf⟩ := h
  rcases open_slice Tryz.underlying22 hf with ⟨hcs, _⟩ | ⟨x, l, c, m, n, D, Pl, hcs, _, hl, hm, hmm, hx, hi⟩
  · simp [Value.cells] at hcs
    obtain ⟨rfl, rfl, rfl⟩ := hcs
    exact ⟨[], ⟨rfl, fun h => by omega⟩, by omega, by simp [maxLen], by simp⟩
  · simp [Value.cells] at hcs
    obtain ⟨rfl, rfl, rfl⟩ := hcs
    simp only [if_true] at hmm
    simp only [Prod.mk.injEq] at hx
    rw [cells_deed12] at hi
    have each : ∀ i, i < len → ∃ y : Deed12, y.good W ∧ ∀ j, j < 3 → W.cell? ((x.add (i * 3)).add j) = y.cells[j]? := by
      intro i hil
      obtain ⟨cs', hcl', ht'⟩ := hi i (by omega)
      obtain ⟨_, hcl, hat⟩ := World.cells?_some hcl'
      obtain ⟨y, rfl, g⟩ := deedCells12 hcl (fun m hm => hw m (by
        rw [hx.1]
        simp only [DataW.weights, Tryz.underlying22, List.mem_cons, List.mem_append]
        exact .inr (.inl (weights_all (d := D i) (by simp only [List.mem_map, List.mem_range]; exact ⟨i, hil, rfl⟩) m hm)))) ht'
      exact ⟨y, g, hat⟩
    have pick : ∃ f : Nat → Deed12, ∀ i, i < len → (f i).good W ∧ ∀ j, j < 3 → W.cell? ((x.add (i * 3)).add j) = (f i).cells[j]? :=
      ⟨fun i => if h : i < len then Classical.choose (each i h) else Deed12.no, fun i hil => by simp only [dif_pos hil]; exact Classical.choose_spec (each i hil)⟩
    obtain ⟨f, hpick⟩ := pick
    refine ⟨(List.range len).map f, ⟨by simp, fun hp => ?_⟩, by omega, by omega, fun y hy => ?_⟩
    · obtain ⟨b, off, spot⟩ := x
      have hc0 := (hpick 0 hp).2 0 (by omega)
      obtain ⟨v0, hv0⟩ : ∃ v0, W.cell? (((⟨b, off, spot⟩ : Addr).add (0 * 3)).add 0) = some v0 := ⟨_, by rw [hc0]; rfl⟩
      have hspot : spot = none := by simpa [Addr.add] using World.cell?_spot hv0
      subst hspot
      have hc0' : W.cell? ⟨b, off, none⟩ = some v0 := by simpa [Addr.add] using hv0
      refine ⟨b, off, rfl, World.block_lt_of_cell? W _ hc0', fun i hil j u hu => ?_⟩
      have he : ((List.range len).map f).getD i Deed12.no = f i := by simp [List.getD, hil]
      rw [he] at hu
      have hj : j < 3 := by
        rcases Nat.lt_or_ge j 3 with h1 | h1
        · exact h1
        · rw [List.getElem?_eq_none (by simpa [Deed12.cells] using h1)] at hu
          cases hu
      have h0 := (hpick i hil).2 j hj
      simp only [Addr.add_lit] at h0
      rw [h0, hu]
    · simp only [List.mem_map, List.mem_range] at hy
      obtain ⟨i, hil, rfl⟩ := hy
      exact (hpick i hil).1

/-- How many things there are in the first k deeds, counted as Heavy counts. -/
def sumN (xs : List Deed12) (k : Nat) : Nat := ((xs.take k).map fun x => 2 + x.nb + x.na).sum
theorem sumN_succ (xs : List Deed12) (k : Nat) (h : k < xs.length) : sumN xs (k + 1) = sumN xs k + (2 + (xs.getD k Deed12.no).nb + (xs.getD k Deed12.no).na) := by
  unfold sumN
  rw [List.take_succ_eq_append_getElem h, List.map_append, List.sum_append, show xs.getD k Deed12.no = xs[k] by simp [List.getD, h]]
  simp only [List.map_cons, List.map_nil, List.sum_cons, List.sum_nil]
  omega
theorem mem_sum : ∀ {l : List Nat} {x : Nat}, x ∈ l → x ≤ l.sum
  | y :: l, x, h => by
    rw [List.sum_cons]
    rcases List.mem_cons.1 h with rfl | h
    · omega
    · have := mem_sum h; omega
theorem sumN_all (xs : List Deed12) (x : Deed12) (hx : x ∈ xs) : 2 + x.nb + x.na ≤ sumN xs xs.length := by
  unfold sumN
  rw [List.take_length]
  exact mem_sum (List.mem_map.2 ⟨x, hx, rfl⟩)

end Go.Proofs.YtniefplgijpckaaGreat
namespace Go.Proofs.YtniefplgijpckaaGreat
open Go.RowKit

/-- What is asked of a deed. -/
structure Deed12.fine (W : World) (x : Deed12) : Prop where
  k : 0 ≤ x.k ∧ x.k ≤ 255
  bs : Reads .u8 W x.bo x.nb x.bs
  by' : ∀ y ∈ x.bs, 0 ≤ y ∧ y ≤ 255
  os : OpsAt W x.ao x.na x.os
  ok : ∀ o ∈ x.os, OpOk o
  nb : x.nb ≤ 1000
  na : x.na ≤ 1000
theorem reads_offIf {k : IntKind} {w w' : World} {F : Nat → Prop} {ao : Option Addr} {n : Nat} {zs : List Int} (h : Reads k w ao n zs) (ho : 0 < n → Off F ao) (hb : Wrote F w w') : Reads k w' ao n zs := by
  rcases Nat.eq_zero_or_pos n with h0 | h0
  · subst h0; exact ⟨h.1, fun h => by omega⟩
  · exact h.off (ho h0) hb
theorem Deed12.fine.keep {W W' : World} {x : Deed12} (h : x.fine W) (hb : Below W.heap.size W W') : x.fine W' := ⟨h.k, h.bs.keep hb, h.by', h.os.keep hb, h.ok, h.nb, h.na⟩
theorem Deed12.fine.off {W W' : World} {x : Deed12} {F : Nat → Prop} (h : x.fine W) (ho : (0 < x.nb → Off F x.bo) ∧ (0 < x.na → Off F x.ao)) (hb : Wrote F W W') : x.fine W' := ⟨h.k, reads_offIf h.bs ho.1 hb, h.by', ops_kept h.os ho.2 hb, h.ok, h.nb, h.na⟩

/-- append on a row of one's own, as one step of a region that draws its order: the row behind it is the same one, or a new one. -/
theorem step_append_later {P : Program} (w : World) {ops : Array Oper} {o : Oper} {a : Act} {K : Act → World → Prop} {Q : Exit → Act → World → Prop} {E : Prop}
    (hg : o.guard = none) (s x : Operand) (t : TypeId) (hop : o.op = Op.call { callee := Callee.builtin Builtin.append, args := #[s, x], argTypes := #[t, t] })
    (base : Nat) (e : TypeId) (i : TypeInfo) (z : Value) (size bytes : Nat) (h1 : P.underlying t = some (.slice e)) (h2 : P.info? e = some i) (h3 : i.zero = some z) (h4 : i.size = size) (h5 : i.bytes = bytes) (h6 : z.cells.size = size) (h7 : 0 < size)
    (v : Value) (k : Nat) (xs : List Value) (hs : a.eval s = v) (hown : w.ownsRow base e size v k xs) (ad : Addr) (m c : Nat) (news : List Value) (hx : a.eval x = .slice (some ad) m c) (hn : news.length = m * size)
    (hc : ∀ j u, news[j]? = some u → w.cell? (ad.add j) = some u) (h1c : ∀ u ∈ news, u.oneCell' = true) (b1 : k + m ≤ maxLen) (b2 : (k + m) * bytes ≤ 140737488355328) (b3 : base ≤ w.heap.size)
    (hK : ∀ v' w', w'.ownsRow base e size v' (k + m) (xs ++ news) → w.grownBy w' v.ownBlock → (∀ g, v'.ownBlock = some g → v.ownBlock = some g ∨ w.heap.size ≤ g) → K (a.put o.dst v') w') :
    if Region.wanted o (yielded ops a.tmps) = true then Oper.wp P o a w K Q else E := by
  have hw : Region.wanted o (yielded ops a.tmps) = true := by simp [Region.wanted, hg]
  rw [if_pos hw]
  obtain ⟨v', w', hr, q2, q3, q4⟩ := run_append_later (P := P) w base t o.type e i z size bytes h1 h2 h3 h4 h5 h6 h7 v k xs hown ad m c news hn hc h1c b1 b2 b3
  unfold Oper.wp
  simp [execOp, hop, resolve, invoke, builtin, hs, hx, hr, Result.andThen]
  exact hK v' w' q2 q3 q4

/-- The cells of a list of deeds. -/
def flatD (l : List Deed12) : List Value := l.flatMap Deed12.cells
theorem flatD_append (a b : List Deed12) : flatD (a ++ b) = flatD a ++ flatD b := by simp [flatD]
theorem flatD_cons (x : Deed12) (l : List Deed12) : flatD (x :: l) = x.cells ++ flatD l := by simp [flatD]
theorem flatD_length : ∀ l : List Deed12, (flatD l).length = l.length * 3
  | [] => rfl
  | x :: l => by rw [flatD_cons, List.length_append, flatD_length l, List.length_cons, show x.cells.length = 3 from rfl]; omega
theorem flatD_at : ∀ (l : List Deed12) (i j : Nat) (u : Value), i < l.length → (l.getD i Deed12.no).cells[j]? = some u → (flatD l)[i * 3 + j]? = some u
  | x :: l, 0, j, u, _, h => by
    rw [flatD_cons, Nat.zero_mul, Nat.zero_add]
    have hj : j < x.cells.length := by
      rcases Nat.lt_or_ge j x.cells.length with h1 | h1
      · exact h1
      · simp [h1] at h
    rw [List.getElem?_append_left hj]
    exact h
  | x :: l, i + 1, j, u, hi, h => by
    rw [flatD_cons, List.getElem?_append_right (by rw [show x.cells.length = 3 from rfl]; omega), show x.cells.length = 3 from rfl, show (i + 1) * 3 + j - 3 = i * 3 + j by omega]
    exact flatD_at l i j u (by simpa using hi) (by simpa using h)

/-- Deeds of one's own, in a row that grows. -/
structure OwnDeeds (w : World) (v : Value) (ds : List Deed12) (W : World) : Prop where
  row : W.ownsRow w.heap.size 38 3 v ds.length (flatD ds)
  fine : ∀ x ∈ ds, x.fine W
  off : ∀ x ∈ ds, (0 < x.nb → Off (fun b => v.ownBlock = some b) x.bo) ∧ (0 < x.na → Off (fun b => v.ownBlock = some b) x.ao)
  be : Below w.heap.size w W

theorem ownBelow {w w' : World} {base size n : Nat} {e : TypeId} {v : Value} {xs : List Value} (h : w.ownsRow base e size v n xs) (hb : Below w.heap.size w w') : w'.ownsRow base e size v n xs :=
  own_keep h fun g e => hb.block g (h.lt g e).2

theorem OwnDeeds.fresh {w W W' : World} {v : Value} {ds : List Deed12} (h : OwnDeeds w v ds W) (hb : Below W.heap.size W W') : OwnDeeds w v ds W' :=
  ⟨ownBelow h.row hb, fun x hx => (h.fine x hx).keep hb, h.off, h.be.trans (hb.mono h.be.size)⟩

theorem OwnDeeds.more {w W w4 : World} {v v' : Value} {ds : List Deed12} {x : Deed12} {o : Obj} (h : OwnDeeds w v ds W) (hx : x.fine W) (ho : (0 < x.nb → Off (fun b => v.ownBlock = some b) x.bo) ∧ (0 < x.na → Off (fun b => v.ownBlock = some b) x.ao))
    (q : w4.ownsRow w.heap.size 38 3 v' (ds.length + 1) (flatD ds ++ x.cells)) (g : (W.alloc o).grownBy w4 v.ownBlock) (hl : ∀ b, v'.ownBlock = some b → v.ownBlock = some b ∨ (W.alloc o).heap.size ≤ b) : OwnDeeds w v' (ds ++ [x]) w4 := by
  have hw : Wrote (fun b => v.ownBlock = some b) W w4 := ((Wrote.refl (fun b => v.ownBlock = some b) W).alloc o).grown g (fun b e => .inl e)
  have hall : ∀ y ∈ ds ++ [x], y.fine W ∧ (0 < y.nb → Off (fun b => v.ownBlock = some b) y.bo) ∧ (0 < y.na → Off (fun b => v.ownBlock = some b) y.ao) := fun y hy => by
    rcases List.mem_append.1 hy with hy | hy
    · exact ⟨h.fine y hy, h.off y hy⟩
    · simp only [List.mem_cons, List.not_mem_nil, or_false] at hy
      subst hy
      exact ⟨hx, ho⟩
  have hs : (W.alloc o).heap.size = W.heap.size + 1 := by simp
  refine ⟨by rw [flatD_append, List.length_append]; simpa [flatD] using q, fun y hy => (hall y hy).1.off (hall y hy).2 hw, fun y hy => ⟨fun hp a e hb => ?_, fun hp a e hb => ?_⟩, (h.be.alloc h.be.size o).grown g (by rw [hs]; have := h.be.size; omega) (fun b e => (h.row.lt b e).1)⟩
  · rcases hl _ hb with h1 | h1
    · exact (hall y hy).2.1 hp a e h1
    · have := readsOld (hall y hy).1.bs hp a e
      omega
  · rcases hl _ hb with h1 | h1
    · exact (hall y hy).2.2 hp a e h1
    · have := opsOld (hall y hy).1.os hp a e
      omega

theorem OwnDeeds.deeds {w W : World} {v : Value} {ds : List Deed12} (h : OwnDeeds w v ds W) : ∃ ao cap, v = .slice ao ds.length cap ∧ DeedsAt W ao ds.length ds := by
  have hcs := fun g hg => h.row.cells (g := g) hg
  have hl : ∀ n, n = ds.length → W.ownsRow w.heap.size 38 3 v n (flatD ds) → ∃ ao cap, v = .slice ao n cap ∧ DeedsAt W ao n ds := fun n hn hr => by
    rcases hr.2 with ⟨rfl, rfl⟩ | ⟨g, cap, cur, rfl, hb, hg, hle, _⟩
    · exact ⟨_, _, rfl, hn.symm, fun hp => by omega⟩
    · refine ⟨_, _, rfl, hn.symm, fun hp => ⟨g, 0, rfl, lt_of_block hg, fun i hi j u hu => ?_⟩⟩
      have := hcs g rfl _ u (flatD_at ds i j u (by omega) hu)
      rw [Nat.add_assoc]
      simpa [Addr.add_lit] using this
  exact hl _ rfl h.row

theorem ownedDeeds {w W : World} {a0 : Option Addr} {dn cp0 : Nat} {ds : List Deed12} (h : OwnDeeds w (.slice a0 dn cp0) ds W) (hd : ds.length = dn) : DeedsAt W a0 dn ds := by
  obtain ⟨ao, cap, e, hA⟩ := h.deeds
  rw [hd] at hA
  injection e with e
  subst e
  exact hA

theorem Reads.from {k : IntKind} {w : World} {b off n j : Nat} {zs : List Int} (h : Reads k w (some ⟨b, off, none⟩) n zs) (hj : j < n) : Reads k w (some ⟨b, off + j, none⟩) (n - j) (zs.drop j) := by
  obtain ⟨b', off', e, hb, hc⟩ := h.2 (by omega)
  simp only [Option.some.injEq, Addr.mk.injEq, and_true] at e
  obtain ⟨rfl, rfl⟩ := e
  refine ⟨by rw [List.length_drop, h.1], fun _ => ⟨b, off + j, rfl, hb, fun i hi => ?_⟩⟩
  rw [Nat.add_assoc, hc (j + i) (by omega)]
  simp [List.getD]
theorem Reads.upto {k : IntKind} {w : World} {ao : Option Addr} {n r : Nat} {zs : List Int} (h : Reads k w ao n zs) (hr : r ≤ n) : Reads k w ao r (zs.take r) := by
  refine ⟨by rw [List.length_take, h.1, Nat.min_eq_left hr], fun hp => ?_⟩
  obtain ⟨b, off, e, hb, hc⟩ := h.2 (by omega)
  refine ⟨b, off, e, hb, fun i hi => ?_⟩
  rw [hc i (by omega)]
  simp [List.getD, hi]

set_option maxRecDepth 100000 in
set_option maxHeartbeats 4000000 in
theorem heavyAny (w : World) (ao : Option Addr) (len cap : Nat) (xs : List Deed12) (hx : DeedsAt w ao len xs) (hg : ∀ x ∈ xs, x.nb ≤ 140737488351232 ∧ x.na ≤ 140737488351232) (hlen : len ≤ 140737488351232) :
    Calls Tryz.prog 9 #[.slice ao len cap] w fun e w' => ∃ T : Nat, e = .returned (.int .i64 T) ∧ Below w.heap.size w w' ∧ (T ≤ 300 → sumN xs xs.length ≤ 300) := by
  have HX := Lib.hid hx
  have HG := Lib.hid hg
  clear hx hg
  go_enter Tryz.func9, Tryz.ntmps9
  go_wp2
  go_loopw [3, 4] (fun t i wr => ∃ k T : Nat, k ≤ len ∧ i = .int .i64 k ∧ t = .int .i64 T ∧ Hid (T = sumN xs k) ∧ T ≤ 281474976711706 ∧ Below w.heap.size w wr) (fun _ i _ => len - (intOf i).toNat)
  case atStart => exact ⟨0, 0, Nat.zero_le _, rfl, rfl, Lib.hid (by simp [sumN]), by omega, Below.refl _ _⟩
  case round =>
    obtain ⟨k, T, hk, rfl, rfl, HT, hT, hb⟩ := hrel
    have HB := Lib.hid hb
    clear hb
    have k0 : (0 : Int) ≤ (k : Int) := by omega
    by_cases hlt : k < len
    · by_cases hT3 : T ≤ 1000
      · obtain ⟨b, off, rfl, hbl, hc⟩ := HX.out.2 (by omega)
        have hcs := hc k hlt
        have hkl : k < xs.length := by rw [HX.out.1]; exact hlt
        obtain ⟨hn, hm⟩ := HG.out (xs.getD k Deed12.no) (by simp [List.getD, hkl])
        have HN := Lib.hid (sumN_succ xs k hkl)
        clear hc hkl
        generalize xs.getD k Deed12.no = x at *
        have c3 := (HB.out.cell (p := ⟨b, off + k * 3 + 1, none⟩) hbl).trans (hcs 1 _ rfl)
        have c4 := (HB.out.cell (p := ⟨b, off + k * 3 + 2, none⟩) hbl).trans (hcs 2 _ rfl)
        clear hcs
        have hT4 : (T : Int) ≤ 1000 := by omega
        have i1 : (k : Int) < len := by omega
        generalize x.nb = xn at *
        generalize x.na = xm at *
        go_wp2
        go_quiet (fail)
        go_wp2
        go_roundw
        case rel => exact ⟨k + 1, T + (2 + xn + xm), by omega, by go_num, by go_num, Lib.hid (by rw [HN.out, HT.out]), by omega, below_drewN HB.out _⟩
        case measure => simp [intOf]; omega
      · have hT4 : ¬ (T : Int) ≤ 1000 := by omega
        have i1 : (k : Int) < len := by omega
        go_wp2
        go_ret
        exact ⟨T, rfl, HB.out, fun h => by omega⟩
    · obtain rfl : k = len := by omega
      have HQ := Lib.hid (show T ≤ 300 → sumN xs xs.length ≤ 300 from fun h => by rw [HX.out.1, ← HT.out]; exact h)
      go_wp2
      go_ret
      exact ⟨T, rfl, HB.out, HQ.out⟩

end Go.Proofs.YtniefplgijpckaaGreat
