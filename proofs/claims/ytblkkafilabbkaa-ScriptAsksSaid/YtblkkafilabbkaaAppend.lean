/-
  append of a slice, nil or not, to a row of one's own; how decoding goes part by part. Conditions: a million elements of each at most where a call is walked.
-/
import Derived.Test.YtblkkafilabbkaaArgs3
namespace Go.Proofs.Ytblkkafilabbkaa
open Go.RowKit

/-- Nothing is appended where the source is nil. -/
theorem run_append_nothing {P : Program} (w : World) (base : Nat) (t ty e : TypeId) (i : TypeInfo) (size : Nat) (ht : P.underlying t = some (.slice e)) (hi : P.info? e = some i) (v : Value) (n : Nat) (xs : List Value) (hown : w.ownsRow base e size v n xs) (c : Nat) :
    (Builtin.append_ #[t, t] ty #[v, .slice none 0 c]).run P w = .ok v w := by
  rcases hown.2 with ⟨rfl, rfl⟩ | ⟨g, cap, cur, rfl, _, _, hle, _⟩
  · simp [Builtin.append_, run_underlying ht, sizeOf, typeInfo, hi, Builtin.lenOf, Builtin.firstCells]
  · simp [Builtin.append_, run_underlying ht, sizeOf, typeInfo, hi, Builtin.lenOf, Builtin.firstCells, hle, storeCells]

/-- append to a row of one's own, whatever the source is. -/
theorem wpList_append_src {P : Program} (w : World) {ops : Array Oper} {rest : List Oper} {o : Oper} {a : Act} {Q : Exit → Act → World → Prop} (hgd : o.guard = none) (s x : Operand) (t : TypeId)
    (ho : o.op = .call { callee := .builtin .append, args := #[s, x], argTypes := #[t, t] })
    (base : Nat) (e : TypeId) (i : TypeInfo) (z : Value) (size bytes : Nat) (ht : P.underlying t = some (.slice e)) (hi : P.info? e = some i) (hz : i.zero = some z)
    (hsize : i.size = size) (hby : i.bytes = bytes) (hzs : z.cells.size = size) (hsz : 0 < size)
    (v : Value) (n : Nat) (xs : List Value) (hs : a.eval s = v) (hown : w.ownsRow base e size v n xs)
    (A : Option Addr) (m c : Nat) (news : List Value) (hx : a.eval x = .slice A m c) (hl : news.length = m * size) (hnews : 0 < m → ∃ ad, A = some ad ∧ ∀ j u, news[j]? = some u → w.cell? (ad.add j) = some u) (h1 : ∀ u ∈ news, u.oneCell' = true)
    (h63 : n + m ≤ maxLen) (hbytes : (n + m) * bytes ≤ 140737488355328) (hbase : base ≤ w.heap.size)
    (h : ∀ v' w', w'.ownsRow base e size v' (n + m) (xs ++ news) → w.grownBy w' v.ownBlock → wpList P ops Q rest (a.put o.dst v') w') : wpList P ops Q (o :: rest) a w := by
  cases A with
  | some ad =>
    refine wpList_append_own w hgd s x t ho base e i z size bytes ht hi hz hsize hby hzs hsz v n xs hs hown ad m c news hx hl ?_ h1 h63 hbytes hbase fun v' w' h2 h3 _ => h v' w' h2 h3
    rcases Nat.eq_zero_or_pos m with h0 | h0
    · subst h0
      have hn : news = [] := List.eq_nil_of_length_eq_zero (by simpa using hl)
      subst hn
      intro j u hu
      simp at hu
    · obtain ⟨ad', e', hc⟩ := hnews h0
      injection e' with e'
      subst e'
      exact hc
  | none =>
    have hm : m = 0 := by
      rcases Nat.eq_zero_or_pos m with h0 | h0
      · exact h0
      · obtain ⟨_, e', _⟩ := hnews h0
        cases e'
    subst hm
    have hn : news = [] := List.eq_nil_of_length_eq_zero (by simpa using hl)
    subst hn
    refine wpList_plain hgd fun K hK => ?_
    have hrun := run_append_nothing (P := P) w base t o.type e i size ht hi v n xs hown c
    unfold Oper.wp
    simp [execOp, ho, resolve, invoke, builtin, hs, hx, hrun, Result.andThen]
    exact hK _ _ (h v w (by simpa using hown) ⟨rfl, rfl, rfl, Nat.le_refl _, fun _ _ _ => rfl⟩)

theorem reads_src {w : World} {A : Option Addr} {n : Nat} {zs : List Int} (h : Reads .u8 w A n zs) : 0 < n → ∃ ad, A = some ad ∧ ∀ j u, (zs.map (Value.int .u8))[j]? = some u → w.cell? (ad.add j) = some u := by
  intro hp
  obtain ⟨b, off, rfl, _, hc⟩ := h.2 hp
  refine ⟨_, rfl, fun j u hu => ?_⟩
  have hj : j < zs.length := by
    rcases Nat.lt_or_ge j zs.length with h1 | h1
    · exact h1
    · simp [h1] at hu
  rw [Addr.add_lit, hc j (by rw [← h.1]; exact hj), ← hu]
  simp [List.getD, hj]

theorem ents_src {w : World} {A : Option Addr} {n : Nat} {es : List Ent} (h : Ents w A n es) : 0 < n → ∃ ad, A = some ad ∧ ∀ j u, (flat es)[j]? = some u → w.cell? (ad.add j) = some u := by
  intro hp
  obtain ⟨b, off, rfl, _, hc⟩ := h.2 hp
  refine ⟨_, rfl, fun j u hu => ?_⟩
  have hj : j < es.length * 5 := by
    rw [← flat_length]
    rcases Nat.lt_or_ge j (flat es).length with h1 | h1
    · exact h1
    · rw [List.getElem?_eq_none h1] at hu; cases hu
  obtain ⟨i, q, rfl, hi, hq⟩ : ∃ i q, j = i * 5 + q ∧ i < es.length ∧ q < 5 := ⟨j / 5, j % 5, by omega, by omega, by omega⟩
  rw [flat_at es i q hi hq] at hu
  obtain ⟨c0, c1, c2, c3, c4⟩ := hc i (by rw [← h.1]; exact hi)
  rw [Addr.add_lit, ← hu, show off + (i * 5 + q) = off + i * 5 + q by omega]
  match q, hq with
  | 0, _ => exact c0
  | 1, _ => exact c1
  | 2, _ => exact c2
  | 3, _ => exact c3
  | 4, _ => exact c4

theorem bytes_one (zs : List Int) : ∀ u ∈ zs.map (Value.int .u8), u.oneCell' = true := by
  intro u hu
  simp only [List.mem_map] at hu
  obtain ⟨z, _, rfl⟩ := hu
  rfl

/-- A row of bytes of one's own reads as these bytes, and its room is no less. -/
theorem bytes_own {w : World} {base n : Nat} {v : Value} {zs : List Int} (h : w.ownsRow base 5 1 v n (zs.map (Value.int .u8))) : ∃ ao cap, v = .slice ao n cap ∧ Reads .u8 w ao n zs ∧ n ≤ cap := by
  have hl : zs.length = n := by have := h.1; simpa using this
  have hcs := fun g hg => h.cells (g := g) hg
  rcases h.2 with ⟨rfl, rfl⟩ | ⟨g, cap, cur, rfl, _, hg, hle, _⟩
  · exact ⟨_, _, rfl, ⟨hl, fun hp => by omega⟩, Nat.le_refl _⟩
  · refine ⟨_, _, rfl, ⟨hl, fun hp => ⟨g, 0, rfl, (Array.getElem?_eq_some_iff.1 hg).1, fun i hi => ?_⟩⟩, hle⟩
    have := hcs g rfl i (.int .u8 (zs.getD i 0)) (by simp [List.getD, show i < zs.length by omega])
    rw [Addr.add_lit, Nat.zero_add] at this
    rw [Nat.zero_add]
    exact this

theorem decAt_left (xs ys : List Int) (k : Nat) (h : 4 * k + 4 ≤ xs.length) : decAt (xs ++ ys) k = decAt xs k := by
  have e : ∀ i, i < xs.length → (xs ++ ys).getD i 0 = xs.getD i 0 := fun i hi => by simp [List.getD, List.getElem?_append_left hi]
  rw [decAt, decAt, e _ (by omega), e _ (by omega), e _ (by omega), e _ (by omega)]

theorem decAt_right (xs ys : List Int) (k q : Nat) (h : xs.length = 4 * q) : decAt (xs ++ ys) (q + k) = decAt ys k := by
  have e : ∀ i, (xs ++ ys).getD (4 * q + i) 0 = ys.getD i 0 := fun i => by
    rw [List.getD, List.getD, List.getElem?_append_right (by omega), show 4 * q + i - xs.length = i by omega]
  rw [decAt, decAt, show 4 * (q + k) = 4 * q + 4 * k by omega, Nat.add_assoc, Nat.add_assoc, Nat.add_assoc, e, e, e, e]

/-- Parts of four bytes are read each for itself. -/
theorem decL_append (xs ys : List Int) (q : Nat) (h : xs.length = 4 * q) : decL (xs ++ ys) = decL xs ++ decL ys := by
  apply List.ext_getElem
  · simp only [decL_length, List.length_append]; omega
  · intro i h1 h2
    rw [decL_length, List.length_append] at h1
    by_cases hi : i < q
    · rw [List.getElem_append_left (by rw [decL_length]; omega)]
      simp only [decL, List.getElem_map, List.getElem_range]
      exact decAt_left xs ys i (by omega)
    · rw [List.getElem_append_right (by rw [decL_length]; omega)]
      simp only [decL, List.getElem_map, List.getElem_range, List.length_map, List.length_range]
      obtain ⟨k, rfl⟩ : ∃ k, i = q + k := ⟨i - q, by omega⟩
      rw [decAt_right xs ys k q h, show q + k - xs.length / 4 = k by omega]

theorem picksN_append (xs ys : List Ent) : picksN (xs ++ ys) = picksN xs + picksN ys := List.countP_append
theorem flat_append (xs ys : List Ent) : flat (xs ++ ys) = flat xs ++ flat ys := by simp [flat]

theorem infoB : (Try.prog.info? 5).map (fun i => (i.zero, i.size, i.bytes)) = some (some (.int .u8 0), 1, 1) := by kernel_rfl

theorem front {w : World} {A : Option Addr} {n m : Nat} {zs : List Int} (h : Reads .u8 w A n zs) (hm : m ≤ n) : Reads .u8 w A m (zs.take m) := by
  have hl := h.1
  refine ⟨by simp; omega, fun hp => ?_⟩
  obtain ⟨b, off, e, hb, hc⟩ := h.2 (by omega)
  refine ⟨b, off, e, hb, fun i hi => ?_⟩
  rw [hc i (by omega)]
  simp [List.getD, hi]

end Go.Proofs.Ytblkkafilabbkaa
