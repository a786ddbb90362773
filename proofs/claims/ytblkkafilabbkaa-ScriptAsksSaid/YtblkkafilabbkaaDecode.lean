/-
  What script.Decode tells of bytes: the entry of each four, in order, in new memory. Conditions: at most a million bytes.
-/
import Derived.Test.YtblkkafilabbkaaChunk
namespace Go.Proofs.Ytblkkafilabbkaa
open Go.RowKit Go.Shelf

attribute [local go_sem] Oper.semAt_some

/-- The entry of the four bytes number k. -/
def decAt (xs : List Int) (k : Nat) : Ent := dec (xs.getD (4 * k) 0) (xs.getD (4 * k + 1) 0) (xs.getD (4 * k + 2) 0) (xs.getD (4 * k + 3) 0)

/-- The entries of bytes. -/
def decL (xs : List Int) : List Ent := (List.range (xs.length / 4)).map (decAt xs)

theorem decL_length (xs : List Int) : (decL xs).length = xs.length / 4 := by simp [decL]

/-- The entries of the pieces that have come. -/
def got (xs : List Int) (pre : List Nat) : List Ent := pre.filterMap fun k => if 4 * k + 4 ≤ xs.length then some (decAt xs k) else none

theorem got_full (xs : List Int) (pre : List Nat) (k : Nat) (h : 4 * k + 4 ≤ xs.length) : got xs (pre ++ [k]) = got xs pre ++ [decAt xs k] := by simp [got, h]
theorem got_part (xs : List Int) (pre : List Nat) (k : Nat) (h : ¬ 4 * k + 4 ≤ xs.length) : got xs (pre ++ [k]) = got xs pre := by simp [got, h]
theorem got_le (xs : List Int) (pre : List Nat) : (got xs pre).length ≤ pre.length := List.length_filterMap_le _ _

theorem got_first (xs : List Int) : ∀ k, k ≤ xs.length / 4 → got xs (upto k) = (List.range k).map (decAt xs)
  | 0, _ => rfl
  | k + 1, h => by rw [upto_succ, got_full xs _ k (by omega), got_first xs k (by omega), List.range_succ, List.map_append]; rfl

theorem got_all (xs : List Int) : got xs (upto (pieces xs.length)) = decL xs := by
  by_cases h : pieces xs.length = xs.length / 4
  · rw [h, got_first xs _ (Nat.le_refl _)]; rfl
  · have e : pieces xs.length = xs.length / 4 + 1 := by unfold pieces at *; omega
    rw [e, upto_succ, got_part xs _ _ (by omega), got_first xs _ (Nat.le_refl _)]; rfl

/-- The cells of entries, one behind the other. -/
def flat (es : List Ent) : List Value := es.flatMap Ent.cells

theorem flat_length (es : List Ent) : (flat es).length = es.length * 5 := by
  induction es with
  | nil => rfl
  | cons e es ih => simp only [flat, List.flatMap_cons, List.length_append, List.length_cons] at *; rw [ih]; simp [Ent.cells]; omega

theorem flat_at : ∀ (es : List Ent) (i j : Nat), i < es.length → j < 5 → (flat es)[i * 5 + j]? = (es.getD i default).cells[j]?
  | [], i, _, h, _ => by simp at h
  | e :: es, 0, j, _, hj => by
    have : e.cells.length = 5 := rfl
    simp only [flat, List.flatMap_cons, Nat.zero_mul, Nat.zero_add, List.getD_cons_zero]
    rw [List.getElem?_append_left (by omega)]
  | e :: es, i + 1, j, h, hj => by
    have hl : e.cells.length = 5 := rfl
    simp only [flat, List.flatMap_cons, List.getD_cons_succ]
    rw [List.getElem?_append_right (by omega), show (i + 1) * 5 + j - e.cells.length = i * 5 + j by omega]
    exact flat_at es i j (by simpa using h) hj

theorem flat_one (es : List Ent) : ∀ u ∈ flat es, u.oneCell' = true := by
  intro u hu
  simp only [flat, List.mem_flatMap] at hu
  obtain ⟨e, _, he⟩ := hu
  simp only [Ent.cells, List.mem_cons, List.not_mem_nil, or_false] at he
  rcases he with rfl | rfl | rfl | rfl | rfl <;> rfl

theorem flat_snoc (es : List Ent) (e : Ent) : flat (es ++ [e]) = flat es ++ e.cells := by simp [flat]

/-- Rows of entries of one's own read as these entries. -/
theorem ents_own {w : World} {base n cap : Nat} {ao : Option Addr} {es : List Ent} (h : w.ownsRow base 46 5 (.slice ao n cap) n (flat es)) : Ents w ao n es := by
  have hl : es.length = n := by have := h.1; rw [flat_length] at this; omega
  refine ⟨hl, fun hp => ?_⟩
  have hcs := fun g hg => h.cells (g := g) hg
  rcases h.2 with ⟨h', e⟩ | ⟨g, cap', cur, h', _, hg, _⟩
  · omega
  · simp only [Value.slice.injEq] at h'
    obtain ⟨rfl, _, rfl⟩ := h'
    refine ⟨g, 0, rfl, (Array.getElem?_eq_some_iff.1 hg).1, fun i hi => ?_⟩
    have hc := fun j (hj : j < 5) => hcs g rfl (i * 5 + j) _ ((flat_at es i j (by omega) hj).trans (List.getElem?_eq_getElem (by exact hj)))
    simp only [Addr.add_lit, Nat.zero_add] at hc ⊢
    exact ⟨hc 0 (by omega), hc 1 (by omega), hc 2 (by omega), hc 3 (by omega), hc 4 (by omega)⟩

/-- New memory that holds these entries. -/
def EntsNew (w : World) (es : List Ent) (e : Ending) (w' : World) : Prop :=
  ∃ ao n cap, e = .returned (.slice ao n cap) ∧ Ents w' ao n es ∧ Below w.heap.size w w'

theorem EntsNew.of_own {w w' : World} {base n : Nat} {v : Value} {es : List Ent} (h : w'.ownsRow base 46 5 v n (flat es)) (hb : Below w.heap.size w w') : EntsNew w es (.returned v) w' := by
  have h2 := h
  rcases h.2 with ⟨rfl, rfl⟩ | ⟨g, cap, cur, rfl, _⟩
  · exact ⟨_, _, _, rfl, ents_own h2, hb⟩
  · exact ⟨_, _, _, rfl, ents_own h2, hb⟩

theorem infoE : (Try.prog.info? 46).map (fun i => (i.zero, i.size, i.bytes)) = some (some (.agg #[.int .u8 0, .int .i64 0, .int .u8 0, .int .i32 0, .int .u8 0]), 5, 32) := by kernel_rfl

theorem own_below {w w' : World} {base size n : Nat} {e : TypeId} {v : Value} {xs : List Value} (h : w.ownsRow base e size v n xs) (hb : Below w.heap.size w w') : w'.ownsRow base e size v n xs := by
  refine ⟨h.1, ?_⟩
  rcases h.2 with h' | ⟨g, cap, cur, h', hbg, hg, h3⟩
  · exact .inl h'
  · exact .inr ⟨g, cap, cur, h', hbg, (hb.block g (Array.getElem?_eq_some_iff.1 hg).1).trans hg, h3⟩

theorem boxed_below {w w' : World} {B : Nat} {t : TypeId} {v : Value} (h : Boxed w B t v) (hb : Below w.heap.size w w') : Boxed w' B t v := (hb.block B h.lt).trans h

theorem keeps_below {w w' : World} (hb : Below w.heap.size w w') : KeepsOthers w w' := ⟨hb.size, fun k _ hk _ => (hb.block k (Array.getElem?_eq_some_iff.1 hk).1).trans hk⟩

/-- append on a row of one's own, as one step of a region that draws its order, inside a fence. -/
theorem stepIn_append_own {F : Fence} {n : Nat} {P : Program} (w : World) {ops : Array Oper} {o : Oper} {a : Act} {K : Act → World → Prop} {Q : Exit → Act → World → Prop} {E : Prop}
    (hg : o.guard = none) (s x : Operand) (t : TypeId) (hop : o.op = Op.call { callee := Callee.builtin Builtin.append, args := #[s, x], argTypes := #[t, t] })
    (base : Nat) (e : TypeId) (i : TypeInfo) (z : Value) (size bytes : Nat) (h1 : P.underlying t = some (.slice e)) (h2 : P.info? e = some i) (h3 : i.zero = some z) (h4 : i.size = size) (h5 : i.bytes = bytes) (h6 : z.cells.size = size) (h7 : 0 < size)
    (v : Value) (k : Nat) (xs : List Value) (hs : a.eval s = v) (hown : w.ownsRow base e size v k xs) (ad : Addr) (m c : Nat) (news : List Value) (hx : a.eval x = .slice (some ad) m c) (hn : news.length = m * size)
    (hc : ∀ j u, news[j]? = some u → w.cell? (ad.add j) = some u) (h1c : ∀ u ∈ news, u.oneCell' = true) (b1 : k + m ≤ maxLen) (b2 : (k + m) * bytes ≤ 140737488355328) (b3 : base ≤ w.heap.size)
    (hK : ∀ v' w', w'.ownsRow base e size v' (k + m) (xs ++ news) → w.grownBy w' v.ownBlock → K (a.put o.dst v') w') :
    if Region.wanted o (yielded ops a.tmps) = true then Oper.wpIn F n P o a w K Q else E := by
  have hw : Region.wanted o (yielded ops a.tmps) = true := by simp [Region.wanted, hg]
  rw [if_pos hw]
  obtain ⟨v', w', hrun, r1, r2, _⟩ := run_append_own (P := P) w base t o.type e i z size bytes h1 h2 h3 h4 h5 h6 h7 v k xs hown ad m c news hn hc h1c b1 b2 b3
  unfold Oper.wpIn
  refine ⟨by simp [Oper.about, hop, resolve, Target.leads, Sem.run_pure], ?_⟩
  rw [Oper.semAt_plain F _ _ (by rw [hop]; intro c h; cases h)]
  simp [execOp, hop, resolve, invoke, builtin, hs, hx, hrun, Result.andThen]
  exact hK v' w' r1 r2

/-- The cells of a block that was just made. -/
theorem new_cells (w : World) (e : Ent) : ∀ j u, e.cells[j]? = some u → (w.alloc (.cells #[.int .u8 e.k, .int .i64 e.t, .int .u8 e.ok, .int .i32 e.ov, .int .u8 e.b] 46)).cell? ((⟨w.heap.size, 0, none⟩ : Addr).add j) = some u := by
  intro j u hu
  rw [Addr.add_lit, Nat.zero_add, cell_of_row _ _ _ _ _ _ (heap_alloc_new w _)]
  rw [← hu]
  simp [Ent.cells]

/-- What holds between two rounds of Decode's loop. -/
def Inv (w : World) (ao : Option Addr) (len cap B : Nat) (xs : List Int) (pre : List Nat) (W : World) : Prop :=
  (∃ v, Boxed W B 23 v ∧ W.ownsRow w.heap.size 46 5 v (got xs pre).length (flat (got xs pre)) ∧ True) ∧ Boxed W (B + 1) 22 (.slice ao len cap) ∧ Boxed W (B + 1 + 1) 3 (.int .i64 4) ∧ Below w.heap.size w W

theorem Inv.own (w : World) (ao : Option Addr) (len cap B : Nat) (xs : List Int) (n : Nat) (hn : w.heap.size ≤ n) : OwnFrom n (Inv w ao len cap B xs) :=
  OwnFrom.and (Own.from (holdsRow_own w.heap.size B 23 46 5 (fun pre => (got xs pre).length) (fun pre => flat (got xs pre)) (fun _ _ => True)) _)
    (OwnFrom.and (Own.from (boxed_own (B + 1) 22 (fun _ => .slice ao len cap)) _) (OwnFrom.and (Own.from (boxed_own (B + 1 + 1) 3 (fun _ => .int .i64 4)) _) (ownFrom_below (Nat.le_refl _) hn)))

/-- A round that has appended an entry. -/
theorem roundEnd {w W w2 w4 : World} {ao : Option Addr} {len cap B n0 : Nat} {xs : List Int} {pre : List Nat} {x : Nat} {v v' : Value} {tmp : Obj}
    (a2 : Boxed (w4.setCell ⟨B, 0, none⟩ v') B 23 v') (a3 : (w4.setCell ⟨B, 0, none⟩ v').ownsRow w.heap.size 46 5 v' ((got xs pre).length + 1) (flat (got xs pre) ++ (decAt xs x).cells))
    (a4 : KeepsOthers w2 (w4.setCell ⟨B, 0, none⟩ v')) (a5 : Below w.heap.size w2 (w4.setCell ⟨B, 0, none⟩ v')) (_hown : w4.ownsRow w.heap.size 46 5 v' ((got xs pre).length + 1) (flat (got xs pre) ++ (decAt xs x).cells)) (hgrow : (w2.alloc tmp).grownBy w4 v.ownBlock)
    (hw2 : Below W.drew.heap.size W.drew w2) (bs : Boxed W (B + 1) 22 (.slice ao len cap)) (bn : Boxed W (B + 1 + 1) 3 (.int .i64 4)) (hB : Below w.heap.size w W) (hf : 4 * x + 4 ≤ xs.length)
    (hrow : w2.ownsRow w.heap.size 46 5 v (got xs pre).length (flat (got xs pre))) :
    KeepsFrom n0 W (w4.setCell ⟨B, 0, none⟩ v') ∧ Kept2 (B + 1) W (w4.setCell ⟨B, 0, none⟩ v') ∧ Inv w ao len cap B xs (pre ++ [x]) (w4.setCell ⟨B, 0, none⟩ v') := by
  have s2 := boxed_below (w := W.drew) bs hw2
  have n2 := boxed_below (w := W.drew) bn hw2
  have s4 : Boxed w4 (B + 1) 22 (.slice ao len cap) := (s2.alloc tmp).kept hgrow (s2.not_row (by decide) hrow)
  have n4 : Boxed w4 (B + 1 + 1) 3 (.int .i64 4) := (n2.alloc tmp).kept hgrow (n2.not_row (by decide) hrow)
  have s5 := s4.other (B' := B) (by omega) v'
  have n5 := n4.other (B' := B) (by omega) v'
  have hk : KeepsOthers W w2 := (KeepsOthers.drew W).trans (keeps_below hw2)
  have hb : Below w.heap.size W w2 := (below_drewN (Below.refl _ W) 1).trans (hw2.mono hB.size)
  refine ⟨(hk.trans a4).from _, ⟨s5.trans (Eq.symm bs), n5.trans (Eq.symm bn)⟩, ⟨v', a2, ?_, trivial⟩, s5, n5, hB.trans (hb.trans a5)⟩
  rw [got_full xs pre x hf, flat_snoc]
  simpa using a3

theorem Array_put_ne (W : World) (l : Nat) (o : Obj) {k : Nat} (h : k ≠ l) : (W.putObj l o).heap[k]? = W.heap[k]? := by
  simp [World.putObj, Ne.symm h]

theorem byte_at {xs : List Int} (h : ∀ x ∈ xs, 0 ≤ x ∧ x ≤ 255) (i : Nat) : 0 ≤ xs.getD i 0 ∧ xs.getD i 0 ≤ 255 := by
  rcases Nat.lt_or_ge i xs.length with hi | hi
  · have : xs.getD i 0 = xs[i] := by simp [List.getD, hi]
    rw [this]
    exact h _ (List.getElem_mem hi)
  · have : xs.getD i 0 = 0 := by simp [List.getD, hi]
    rw [this]
    omega

set_option maxRecDepth 100000 in
set_option maxHeartbeats 4000000 in
theorem decodeAny (w : World) (ao : Option Addr) (len cap : Nat) (xs : List Int) (hr : Reads .u8 w ao len xs) (hby : ∀ x ∈ xs, 0 ≤ x ∧ x ≤ 255) (hlen : len ≤ 1000000) (hcap : len ≤ cap) :
    Calls Try.prog 13 #[.slice ao len cap] w (EntsNew w (decL xs)) := by
  obtain ⟨i0, hi, hz0, hz1, hz2⟩ := info_parts infoE
  obtain ⟨b, off, hao⟩ : ∃ b off, 0 < len → ao = some ⟨b, off, none⟩ ∧ b < w.heap.size ∧ ∀ i, i < len → w.cell? ⟨b, off + i, none⟩ = some (.int .u8 (xs.getD i 0)) := by
    rcases Nat.eq_zero_or_pos len with h | h
    · exact ⟨0, 0, fun h' => by omega⟩
    · obtain ⟨b, off, e, hb, hc⟩ := hr.2 h
      exact ⟨b, off, fun _ => ⟨e, hb, hc⟩⟩
  have HAO := Lib.hid hao
  have HL := Lib.hid hr.1
  have HY := Lib.hid hby
  clear hr hby hao
  refine (callsIn_wide (n := 3)).1 ?_
  refine callsIn_of_wp_marks Try.func13 rfl trivial ?_ rfl
  simp only [Try.ntmps13, List.size_toArray, List.length_cons, List.length_nil, Nat.reduceAdd, Nat.reduceSub, Array.replicate_succ, Array.replicate_zero, List.push_toArray, List.append_toArray, List.nil_append, List.cons_append]
  gi_wp2_with (first
    | (gi_at_make; refine wpListIn_make_own _ rfl _ _ 23 rfl w.heap.size 46 i0 _ 5 Try.underlying23 hi hz0 hz1 .i64 .i64 _ (len / 4) rfl rfl (by omega) (by rw [hz2]; omega) (by simp only [maxLen]; omega) (Nat.le_refl _) ?_; intro w1 hown1 hgrow1; have HO1 := Lib.hid hown1; have HG1 := Lib.hid hgrow1; clear hown1 hgrow1)
    | (refine ⟨trivial, ?_⟩; gi_at_call 23; refine (chunk_in _ _ _ _ _).mono ?_; rintro e w' ⟨rfl, rfl⟩))
  have bL := ((Boxed.new w1 23 (.slice (some ⟨w.heap.size, 0, none⟩) 0 (len / 4))).alloc (.cells #[.slice ao len cap] 22)).alloc (.cells #[.int .i64 4] 3)
  have bS := (Boxed.new (w1.alloc (.cells #[.slice (some ⟨w.heap.size, 0, none⟩) 0 (len / 4)] 23)) 22 (.slice ao len cap)).alloc (.cells #[.int .i64 4] 3)
  have bN := Boxed.new ((w1.alloc (.cells #[.slice (some ⟨w.heap.size, 0, none⟩) 0 (len / 4)] 23)).alloc (.cells #[.slice ao len cap] 22)) 3 (.int .i64 4)
  have oW := ((HO1.out.alloc (.cells #[.slice (some ⟨w.heap.size, 0, none⟩) 0 (len / 4)] 23)).alloc (.cells #[.slice ao len cap] 22)).alloc (.cells #[.int .i64 4] 3)
  have b1 : Below w.heap.size w w1 := (Below.refl _ w).grown HG1.out (Nat.le_refl _) (fun k e => by cases e)
  have bW := ((b1.alloc b1.size (.cells #[.slice (some ⟨w.heap.size, 0, none⟩) 0 (len / 4)] 23)).alloc (by have := b1.size; simp; omega) (.cells #[.slice ao len cap] 22)).alloc (by have := b1.size; simp; omega) (.cells #[.int .i64 4] 3)
  simp only [World.size_alloc] at bS bN
  have hsz := b1.size
  generalize ((w1.alloc (.cells #[.slice (some ⟨w.heap.size, 0, none⟩) 0 (len / 4)] 23)).alloc (.cells #[.slice ao len cap] 22)).alloc (.cells #[.int .i64 4] 3) = W0 at *
  clear b1 HO1 HG1
  generalize w1.heap.size = B at *
  have lt0 := bN.lt
  refine wpIn_rangeFunc_ownG rfl (by omega) (gf := 25) (lb := #[.pointer (some ⟨B + 1, 0, none⟩), .pointer (some ⟨B + 1 + 1, 0, none⟩)]) rfl trivial (enters_of Try.func25 (by kernel_rfl) rfl)
    (chunk_stops (3 - 1) (B + 1) ao len cap b off hlen hcap (fun h => (HAO.out h).1) W0 lt0 bS.cell bN.cell) (fun h k => h.trans k)
    (fun W l o o' hl h _ _ => ⟨Array_put_ne W l o' (by omega), Array_put_ne W l o' (by omega)⟩) (Below.refl _ _) (fun _ => rfl)
    (Inv w ao len cap B xs) (fun _ _ _ => False) (Inv.own w ao len cap B xs _ bW.size) (fun _ _ _ _ _ hs _ _ => hs)
    ⟨⟨_, bL, by simpa [got, flat] using oW, trivial⟩, bS, bN, bW⟩
    (fun x => { tmps := #[.slice ao len cap, undef, .slice none 0 0, .pointer (some ⟨B, 0, none⟩), .slice (some ⟨b, off + 4 * x, none⟩) (c4 len x) (c4 len x), .slice ao len cap, .int .i64 len, .int .i64 ((len : Int) / 4), .slice (some ⟨w.heap.size, 0, none⟩) 0 (len / 4), .slice ao len cap, .func (.func 25) #[] #[.pointer (some ⟨B + 1, 0, none⟩), .pointer (some ⟨B + 1 + 1, 0, none⟩)], .slice (some ⟨b, off + 4 * x, none⟩) (c4 len x) (c4 len x), undef, undef, undef, undef, undef, undef, undef, undef, undef], defers := [] }) ?assign ?body ?done ?stop
  case assign =>
    intro l x W K hK
    simp only [chunkV]
    gi_wp2
    exact hK
  case body =>
    rintro l pre x W ⟨⟨v, hv, hrow, _⟩, bs, bn, hB⟩ hlt
    have HS := Lib.hid bs
    have HN := Lib.hid bn
    have HE := Lib.hid hB
    have HRow := Lib.hid hrow
    have HBn := Lib.hid hsz
    by_cases hfull : 4 * x + 4 ≤ len
    · have hc := hv.cell
      have hq : c4 len x = 4 := by unfold c4; omega
      rw [hq]
      clear hq
      have hmx : Try.prog.follows .mixedOrders = true := by kernel_rfl
      obtain ⟨_, hbl, hcs⟩ := HAO.out (by omega)
      have d0 := (hB.cell (p := ⟨b, off + 4 * x, none⟩) hbl).trans (hcs (4 * x) (by omega))
      have d1 := (hB.cell (p := ⟨b, off + 4 * x + 1, none⟩) hbl).trans (hcs (4 * x + 1) (by omega))
      have d2 := (hB.cell (p := ⟨b, off + 4 * x + 2, none⟩) hbl).trans (hcs (4 * x + 2) (by omega))
      have d3 := (hB.cell (p := ⟨b, off + 4 * x + 3, none⟩) hbl).trans (hcs (4 * x + 3) (by omega))
      have HB1 := Lib.hid (byte_at HY.out (4 * x + 1))
      have HB3 := Lib.hid (byte_at HY.out (4 * x + 3))
      have HG := Lib.hid (show 4 * x + 4 ≤ xs.length by rw [HL.out]; exact hfull)
      have hgl := got_le xs pre
      have HM1 := Lib.hid (show (got xs pre).length + 1 ≤ maxLen by simp only [maxLen]; omega)
      have HM2 := Lib.hid (show ((got xs pre).length + 1) * 32 ≤ 140737488355328 by omega)
      have HSz := Lib.hid hB.size
      clear hcs bs bn hB hrow bS bN bL oW bW hbl lt0 hgl
      gi_wp2
      refine wpIn_region_any hmx ?_
      change wpAnyIn _ _ _ _ _ _ _ _ _ (World.drew _)
      refine wpAnyIn_ready (rs := [0, 1]) (by kernel_rfl) (by simp) ?_
      refine AllReadyIn.cons rfl (fun K hK => ?_) ?_
      · go_simp
        refine hK _ _ ?_
        clear hK K
        refine wpAnyIn_ready (rs := [1]) (by kernel_rfl) (by simp) ?_
        refine AllReadyIn.cons rfl (fun K hK => ?_) ?_
        · go_simp
          refine hK _ _ ?_
          clear hK K
          refine wpAnyIn_ready (rs := [2]) (by kernel_rfl) (by simp) ?_
          refine AllReadyIn.cons rfl (fun K hK => ?_) ?_
          · go_simp
            refine ⟨trivial, ?_⟩
            refine (CallsIn.inRound l (callsIn_wide.2 (entryAny W.drew b (off + 4 * x) 4 _ _ _ _ d0 d1 d2 d3 HB1.out HB3.out))).mono ?_
            rintro e w2 ⟨rfl, hw2⟩
            have HW2 := Lib.hid hw2
            have v2 := boxed_below (w := W.drew) hv hw2
            have k2 := v2.cell
            have l2 := v2.lt
            clear hw2
            refine hK _ _ ?_
            clear hK K
            refine wpAnyIn_ready (rs := [3]) (by kernel_rfl) (by simp) ?_
            refine AllReadyIn.cons rfl (fun K hK => ?_) ?_
            · go_simp
              refine hK _ _ ?_
              clear hK K
              refine wpAnyIn_ready (rs := [4]) (by kernel_rfl) (by simp) ?_
              refine AllReadyIn.cons rfl (fun K hK => ?_) ?_
              · refine stepIn_append_own _ rfl _ _ 23 rfl w.heap.size 46 i0 _ 5 32 Try.underlying23 hi hz0 hz1 hz2 rfl (by decide) _ _ _ rfl ((own_below (w := W.drew) HRow.out HW2.out).alloc _) ⟨w2.heap.size, 0, none⟩ 1 1 (decAt xs x).cells rfl rfl (new_cells _ _) (fun u hu => flat_one [decAt xs x] u (by simpa [flat] using hu)) HM1.out HM2.out (Nat.le_trans HSz.out (Nat.le_trans HW2.out.size (by simp))) ?_
                intro v' w4 hown' hgrow
                obtain ⟨g', cap', rfl⟩ := ownsRow_succ hown'
                obtain ⟨a1, a2, a3, a4, a5⟩ := v2.appended (by decide) (own_below (w := W.drew) HRow.out HW2.out) (Nat.le_trans HSz.out HW2.out.size) HBn.out hown' hgrow
                have k4 := a1.cell
                have f4 := a1.frozen
                have HA := Lib.hid (And.intro a2 (And.intro a3 (And.intro a4 (And.intro a5 (And.intro hown' hgrow)))))
                clear a1 a2 a3 a4 a5 hown' hgrow k2
                refine hK _ _ ?_
                clear hK K
                refine wpAnyIn_ready (rs := [5]) (by kernel_rfl) (by simp) ?_
                refine AllReadyIn.cons rfl (fun K hK => ?_) ?_
                · go_simp
                  refine hK _ _ ?_
                  clear hK K
                  refine wpAnyIn_done (by kernel_rfl) ?_ _
                  gi_wp2
                  exact roundEnd HA.out.1 HA.out.2.1 HA.out.2.2.1 HA.out.2.2.2.1 HA.out.2.2.2.2.1 HA.out.2.2.2.2.2 HW2.out HS.out HN.out HE.out HG.out (own_below (w := W.drew) HRow.out HW2.out)
                exact AllReadyIn.nil
              exact AllReadyIn.nil
            exact AllReadyIn.nil
          exact AllReadyIn.nil
        exact AllReadyIn.nil
      refine AllReadyIn.cons rfl (fun K hK => ?_) ?_
      · go_simp
        refine hK _ _ ?_
        clear hK K
        refine wpAnyIn_ready (rs := [0, 2]) (by kernel_rfl) (by simp) ?_
        refine AllReadyIn.cons rfl (fun K hK => ?_) ?_
        · go_simp
          refine hK _ _ ?_
          clear hK K
          refine wpAnyIn_ready (rs := [2]) (by kernel_rfl) (by simp) ?_
          refine AllReadyIn.cons rfl (fun K hK => ?_) ?_
          · go_simp
            refine ⟨trivial, ?_⟩
            refine (CallsIn.inRound l (callsIn_wide.2 (entryAny W.drew b (off + 4 * x) 4 _ _ _ _ d0 d1 d2 d3 HB1.out HB3.out))).mono ?_
            rintro e w2 ⟨rfl, hw2⟩
            have HW2 := Lib.hid hw2
            have v2 := boxed_below (w := W.drew) hv hw2
            have k2 := v2.cell
            have l2 := v2.lt
            clear hw2
            refine hK _ _ ?_
            clear hK K
            refine wpAnyIn_ready (rs := [3]) (by kernel_rfl) (by simp) ?_
            refine AllReadyIn.cons rfl (fun K hK => ?_) ?_
            · go_simp
              refine hK _ _ ?_
              clear hK K
              refine wpAnyIn_ready (rs := [4]) (by kernel_rfl) (by simp) ?_
              refine AllReadyIn.cons rfl (fun K hK => ?_) ?_
              · refine stepIn_append_own _ rfl _ _ 23 rfl w.heap.size 46 i0 _ 5 32 Try.underlying23 hi hz0 hz1 hz2 rfl (by decide) _ _ _ rfl ((own_below (w := W.drew) HRow.out HW2.out).alloc _) ⟨w2.heap.size, 0, none⟩ 1 1 (decAt xs x).cells rfl rfl (new_cells _ _) (fun u hu => flat_one [decAt xs x] u (by simpa [flat] using hu)) HM1.out HM2.out (Nat.le_trans HSz.out (Nat.le_trans HW2.out.size (by simp))) ?_
                intro v' w4 hown' hgrow
                obtain ⟨g', cap', rfl⟩ := ownsRow_succ hown'
                obtain ⟨a1, a2, a3, a4, a5⟩ := v2.appended (by decide) (own_below (w := W.drew) HRow.out HW2.out) (Nat.le_trans HSz.out HW2.out.size) HBn.out hown' hgrow
                have k4 := a1.cell
                have f4 := a1.frozen
                have HA := Lib.hid (And.intro a2 (And.intro a3 (And.intro a4 (And.intro a5 (And.intro hown' hgrow)))))
                clear a1 a2 a3 a4 a5 hown' hgrow k2
                refine hK _ _ ?_
                clear hK K
                refine wpAnyIn_ready (rs := [5]) (by kernel_rfl) (by simp) ?_
                refine AllReadyIn.cons rfl (fun K hK => ?_) ?_
                · go_simp
                  refine hK _ _ ?_
                  clear hK K
                  refine wpAnyIn_done (by kernel_rfl) ?_ _
                  gi_wp2
                  exact roundEnd HA.out.1 HA.out.2.1 HA.out.2.2.1 HA.out.2.2.2.1 HA.out.2.2.2.2.1 HA.out.2.2.2.2.2 HW2.out HS.out HN.out HE.out HG.out (own_below (w := W.drew) HRow.out HW2.out)
                exact AllReadyIn.nil
              exact AllReadyIn.nil
            exact AllReadyIn.nil
          exact AllReadyIn.nil
        refine AllReadyIn.cons rfl (fun K hK => ?_) ?_
        · go_simp
          refine ⟨trivial, ?_⟩
          refine (CallsIn.inRound l (callsIn_wide.2 (entryAny W.drew b (off + 4 * x) 4 _ _ _ _ d0 d1 d2 d3 HB1.out HB3.out))).mono ?_
          rintro e w2 ⟨rfl, hw2⟩
          have HW2 := Lib.hid hw2
          have v2 := boxed_below (w := W.drew) hv hw2
          have k2 := v2.cell
          have l2 := v2.lt
          clear hw2
          refine hK _ _ ?_
          clear hK K
          refine wpAnyIn_ready (rs := [0, 3]) (by kernel_rfl) (by simp) ?_
          refine AllReadyIn.cons rfl (fun K hK => ?_) ?_
          · go_simp
            refine hK _ _ ?_
            clear hK K
            refine wpAnyIn_ready (rs := [3]) (by kernel_rfl) (by simp) ?_
            refine AllReadyIn.cons rfl (fun K hK => ?_) ?_
            · go_simp
              refine hK _ _ ?_
              clear hK K
              refine wpAnyIn_ready (rs := [4]) (by kernel_rfl) (by simp) ?_
              refine AllReadyIn.cons rfl (fun K hK => ?_) ?_
              · refine stepIn_append_own _ rfl _ _ 23 rfl w.heap.size 46 i0 _ 5 32 Try.underlying23 hi hz0 hz1 hz2 rfl (by decide) _ _ _ rfl ((own_below (w := W.drew) HRow.out HW2.out).alloc _) ⟨w2.heap.size, 0, none⟩ 1 1 (decAt xs x).cells rfl rfl (new_cells _ _) (fun u hu => flat_one [decAt xs x] u (by simpa [flat] using hu)) HM1.out HM2.out (Nat.le_trans HSz.out (Nat.le_trans HW2.out.size (by simp))) ?_
                intro v' w4 hown' hgrow
                obtain ⟨g', cap', rfl⟩ := ownsRow_succ hown'
                obtain ⟨a1, a2, a3, a4, a5⟩ := v2.appended (by decide) (own_below (w := W.drew) HRow.out HW2.out) (Nat.le_trans HSz.out HW2.out.size) HBn.out hown' hgrow
                have k4 := a1.cell
                have f4 := a1.frozen
                have HA := Lib.hid (And.intro a2 (And.intro a3 (And.intro a4 (And.intro a5 (And.intro hown' hgrow)))))
                clear a1 a2 a3 a4 a5 hown' hgrow k2
                refine hK _ _ ?_
                clear hK K
                refine wpAnyIn_ready (rs := [5]) (by kernel_rfl) (by simp) ?_
                refine AllReadyIn.cons rfl (fun K hK => ?_) ?_
                · go_simp
                  refine hK _ _ ?_
                  clear hK K
                  refine wpAnyIn_done (by kernel_rfl) ?_ _
                  gi_wp2
                  exact roundEnd HA.out.1 HA.out.2.1 HA.out.2.2.1 HA.out.2.2.2.1 HA.out.2.2.2.2.1 HA.out.2.2.2.2.2 HW2.out HS.out HN.out HE.out HG.out (own_below (w := W.drew) HRow.out HW2.out)
                exact AllReadyIn.nil
              exact AllReadyIn.nil
            exact AllReadyIn.nil
          refine AllReadyIn.cons rfl (fun K hK => ?_) ?_
          · go_simp
            refine hK _ _ ?_
            clear hK K
            refine wpAnyIn_ready (rs := [0]) (by kernel_rfl) (by simp) ?_
            refine AllReadyIn.cons rfl (fun K hK => ?_) ?_
            · go_simp
              refine hK _ _ ?_
              clear hK K
              refine wpAnyIn_ready (rs := [4]) (by kernel_rfl) (by simp) ?_
              refine AllReadyIn.cons rfl (fun K hK => ?_) ?_
              · refine stepIn_append_own _ rfl _ _ 23 rfl w.heap.size 46 i0 _ 5 32 Try.underlying23 hi hz0 hz1 hz2 rfl (by decide) _ _ _ rfl ((own_below (w := W.drew) HRow.out HW2.out).alloc _) ⟨w2.heap.size, 0, none⟩ 1 1 (decAt xs x).cells rfl rfl (new_cells _ _) (fun u hu => flat_one [decAt xs x] u (by simpa [flat] using hu)) HM1.out HM2.out (Nat.le_trans HSz.out (Nat.le_trans HW2.out.size (by simp))) ?_
                intro v' w4 hown' hgrow
                obtain ⟨g', cap', rfl⟩ := ownsRow_succ hown'
                obtain ⟨a1, a2, a3, a4, a5⟩ := v2.appended (by decide) (own_below (w := W.drew) HRow.out HW2.out) (Nat.le_trans HSz.out HW2.out.size) HBn.out hown' hgrow
                have k4 := a1.cell
                have f4 := a1.frozen
                have HA := Lib.hid (And.intro a2 (And.intro a3 (And.intro a4 (And.intro a5 (And.intro hown' hgrow)))))
                clear a1 a2 a3 a4 a5 hown' hgrow k2
                refine hK _ _ ?_
                clear hK K
                refine wpAnyIn_ready (rs := [5]) (by kernel_rfl) (by simp) ?_
                refine AllReadyIn.cons rfl (fun K hK => ?_) ?_
                · go_simp
                  refine hK _ _ ?_
                  clear hK K
                  refine wpAnyIn_done (by kernel_rfl) ?_ _
                  gi_wp2
                  exact roundEnd HA.out.1 HA.out.2.1 HA.out.2.2.1 HA.out.2.2.2.1 HA.out.2.2.2.2.1 HA.out.2.2.2.2.2 HW2.out HS.out HN.out HE.out HG.out (own_below (w := W.drew) HRow.out HW2.out)
                exact AllReadyIn.nil
              exact AllReadyIn.nil
            exact AllReadyIn.nil
          exact AllReadyIn.nil
        exact AllReadyIn.nil
      exact AllReadyIn.nil
    · have hne : ((c4 len x : Nat) : Int) ≠ 4 := by unfold c4; omega
      have hd := beq_eq_false_iff_ne.2 hne
      have HF := Lib.hid (show ¬ 4 * x + 4 ≤ xs.length by rw [HL.out]; exact hfull)
      clear hne hfull bs bn hB hrow bS bN bL oW bW
      generalize c4 len x = q at *
      gi_wp2
      exact ⟨KeepsFrom.refl _ _, Kept2.refl _ _, ⟨v, hv, by rw [got_part xs pre x HF.out]; exact HRow.out, trivial⟩, HS.out, HN.out, HE.out⟩
  case done =>
    rintro D ys W hD rfl ⟨⟨v, hv, hrow, _⟩, bs, bn, hB⟩ hK
    have hc := hv.cell
    have HRow := Lib.hid hrow
    have HE := Lib.hid hB
    have HD := Lib.hid hD
    have HW := Lib.hid bW
    clear hrow hB bs bn bS bN bL oW bW hD
    have hvv : ∃ a n c, v = .slice a n c := by
      rcases HRow.out.2 with ⟨rfl, _⟩ | ⟨g, cap', cur, rfl, _⟩
      · exact ⟨_, _, _, rfl⟩
      · exact ⟨_, _, _, rfl⟩
    obtain ⟨va, vn, vc, rfl⟩ := hvv
    gi_wp2
    refine ⟨by simp, .inl ⟨_, _, rfl, run_takeDeferred hK, ?_⟩⟩
    refine ⟨_, results_tmp rfl _ _ _, EntsNew.of_own (ownsRow_putObj (by rw [← got_all, HL.out]; exact HRow.out) _ hK rfl) (HE.out.trans (belowK_b (w := w) (Nat.le_refl _) W D _ _ (Nat.le_trans HW.out.size HD.out) hK rfl rfl))⟩
  case stop =>
    rintro D c pre W _ _ h _
    exact h.elim

end Go.Proofs.Ytblkkafilabbkaa
