/-
  slices.Insert puts one number into a list, wherever it is to stand; slices.Delete takes the last one. Conditions: a list of at most a thousand numbers; the number lies in a block of its own.
-/
import Derived.Test.YtejnadokjnfagaaInsert8
import Derived.Lib.SliceRun
import Derived.BigFrame
namespace Go.Proofs.Ytejnadokjnfagaa
open Go.RowKit Go.Lib

section
variable {w : World}
set_option maxRecDepth 100000 in
set_option maxHeartbeats 8000000 in
/-- All in new memory. -/
theorem insertGrow (g off cap i vb : Nat) (xs : List Value) (x : Value) (T : TypeId) (hl : g < w.heap.size) (hx : ∀ j, j < xs.length → w.cell? ⟨g, off + j, none⟩ = xs[j]?)
    (h1 : ∀ v ∈ xs, v.oneCell' = true) (h1x : x.oneCell' = true) (hv : w.heap[vb]? = some (.cells #[x] T (0, 0))) (hi : i < xs.length) (hc : xs.length ≤ cap) (hroom : cap < xs.length + 1) (hn0 : xs.length ≤ 1000) :
    Calls Try.prog 43 #[.slice (some ⟨g, off, none⟩) xs.length cap, .int .i64 i, .slice (some ⟨vb, 0, none⟩) 1 1] w (TailPost w (.slice (some ⟨g, off, none⟩) xs.length cap) (xs.take i ++ x :: xs.drop i)) := by
  obtain ⟨i0, hi0, hz0, hzs, hzb⟩ := info_parts infoI32
  have hvl : vb < w.heap.size := lt_of_block hv
  have hvc : w.cell? ⟨vb, 0, none⟩ = some x := by simp [World.cell?, hv]
  obtain ⟨G, hG⟩ : ∃ G, G = grownCap w (xs.length + 1) cap 21 := ⟨_, rfl⟩
  have hGn : xs.length + 1 ≤ G := by rw [hG]; exact grownCap_ge w _ _ _
  have hGm : G ≤ maxLen := by rw [hG]; exact grownCap_le_maxLen w _ _ _ (by unfold maxLen; omega)
  obtain ⟨ROW, hROW⟩ : ∃ ROW : Array Value, ROW = (xs.take i).toArray ++ Builtin.zeroCells (Value.int .i32 0).cells (xs.length + 1 - i) ++ Builtin.zeroCells (Value.int .i32 0).cells (G - (xs.length + 1)) := ⟨_, rfl⟩
  have hRs : ROW.size = G := by rw [hROW]; simp [Builtin.zeroCells, Value.cells]; omega
  have hRt : ∀ j, j < i → ROW[j]? = xs[j]? := fun j hj => by
    rw [hROW, Array.append_assoc, Array.getElem?_append_left (by simp; omega), List.getElem?_toArray, List.getElem?_take, if_pos hj]
  obtain ⟨W1, hW1⟩ : ∃ W1, W1 = w.drew.alloc (.cells ROW 21) := ⟨_, rfl⟩
  have HEnd := Lib.hid (fun (v : Value) (W : World) => tail_anew (w := w) (W := W) (xs := xs) (v := v) (x := x) (e := 21) hi hGn hGm hRs hRt)
  have hold : (Builtin.firstCells i0.size i (.slice (some ⟨g, off, none⟩) i cap)).run Try.prog w.drew = .ok (xs.take i).toArray w.drew := by
    rw [hzs]
    exact run_firstCells_some w.drew 1 i ⟨g, off, none⟩ i cap (xs.take i) (by rw [List.length_take]; omega) (fun j v hj => by
      rw [Addr.add_lit]
      rw [List.getElem?_take] at hj
      split at hj
      · exact (hx j (by omega)).trans hj
      · cases hj)
  have hrz : ∀ ty, (Builtin.append_ #[22, 3] ty #[.slice (some ⟨g, off, none⟩) i cap, .int .i64 ((xs.length : Int) + 1 - (i : Int))]).run Try.prog w = .ok (.slice (some ⟨w.heap.size, 0, none⟩) (xs.length + 1) G) W1 := fun ty => by
    have h := Lib.run_append_grow_zeros (P := Try.prog) w 22 3 ty 21 i0 _ .i64 .i64 Try.underlying22 Try.underlying3 hi0 hz0 (some ⟨g, off, none⟩) i cap (xs.take i) hold (xs.length + 1 - i) (by omega) (by omega) (by omega) (by omega) (by rw [hzb]; omega) (by rw [hzb]; exact growslice_fits (by omega) (by omega))
    rw [show i + (xs.length + 1 - i) = xs.length + 1 by omega, ← hG, ← hROW, ← hW1] at h
    rw [show (xs.length : Int) + 1 - (i : Int) = ((xs.length + 1 - i : Nat) : Int) by omega]
    exact h
  have hN : ∀ j, j < G → (W1.cell? ⟨w.heap.size, j, none⟩).isSome = true := fun j hj => by
    have e1 : (w.drew.alloc (.cells ROW 21)).cell? ⟨w.heap.size, j, none⟩ = ROW[j]? := World.cell?_alloc_new w.drew _ _ j
    rw [hW1, e1, Array.getElem?_eq_getElem (by omega)]; rfl
  have hNf : ∀ j, W1.frozen? ⟨w.heap.size, j, none⟩ = false := fun j => by rw [hW1]; exact World.frozen?_alloc_new w.drew _ _ _
  have hb : Below w.heap.size w W1 := by rw [hW1]; exact (Below.refl _ w).drew.alloc (Nat.le_refl _) _
  have hcpA : ∀ ty dc, (Builtin.copy_ #[22, 22] ty #[.slice (some ⟨w.heap.size, i, none⟩) (xs.length + 1 - i) dc, .slice (some ⟨vb, 0, none⟩) 1 1]).run Try.prog W1 = .ok (goInt 1) (W1.setCells w.heap.size i [x]) := fun ty dc =>
    run_copy_cells W1 _ _ ty 21 w.heap.size i (xs.length + 1 - i) dc ⟨vb, 0, none⟩ 1 1 [x] Try.underlying22 infoSize32 (by simp only [Nat.min_def]; simp; omega)
      (fun j v hj => by
        match j with
        | 0 =>
          simp at hj
          subst hj
          rw [Addr.add_lit]
          exact (hb.cell (p := ⟨vb, 0, none⟩) hvl).trans hvc
        | j + 1 => simp at hj)
      (fun j hj => hN _ (by simp at hj; omega)) (fun j hj => hNf _) (by simpa using h1x)
  have hcpB : ∀ ty dc sc, (Builtin.copy_ #[22, 22] ty #[.slice (some ⟨w.heap.size, i + 1, none⟩) (xs.length - i) dc, .slice (some ⟨g, off + i, none⟩) (xs.length - i) sc]).run Try.prog (W1.setCells w.heap.size i [x]).drew = .ok (goInt (xs.drop i).length) ((W1.setCells w.heap.size i [x]).drew.setCells w.heap.size (i + 1) (xs.drop i)) := fun ty dc sc =>
    run_copy_cells _ _ _ ty 21 w.heap.size (i + 1) (xs.length - i) dc ⟨g, off + i, none⟩ (xs.length - i) sc (xs.drop i) Try.underlying22 infoSize32 (by simp)
      (fun j v hj => by
        rw [List.getElem?_drop] at hj
        have hj2 : i + j < xs.length := by
          rcases Nat.lt_or_ge (i + j) xs.length with h | h
          · exact h
          · rw [List.getElem?_eq_none h] at hj; cases hj
        rw [Addr.add_lit]
        show (W1.setCells w.heap.size i [x]).cell? _ = _
        rw [World.cell?_setCells_out _ _ _ _ _ (fun h _ => by simp at h; omega), Nat.add_assoc]
        exact (hb.cell (p := ⟨g, off + (i + j), none⟩) hl).trans ((hx (i + j) hj2).trans hj))
      (fun j hj => isSome_setCells _ _ _ _ _ (hN _ (by simp at hj; omega)))
      (fun j hj => by show (W1.setCells w.heap.size i [x]).frozen? _ = _; rw [World.frozen?_setCells]; exact hNf _) (fun v hv => h1 v (List.mem_of_mem_drop hv))
  have HW1 := Lib.hid hW1
  generalize hn : xs.length = n at *
  have hw1 : IntKind.i64.wrap ((i : Int) + 1) = (i : Int) + 1 := by rw [IntKind.wrap_i64]; omega
  have hb1 : (0 : Int) ≤ (i : Int) + 1 := by omega
  have hin : (i : Int) ≤ n := by omega
  have hin2 : (i : Int) ≤ cap := by omega
  have hz2 : ¬ ((i : Int) = (n : Int)) := by omega
  have htn : ((i : Int) + 1).toNat = i + 1 := by omega
  have hb3 : (i : Int) + 1 ≤ (n : Int) + 1 := by omega
  have hb5 : (i : Int) ≤ (n : Int) + 1 := by omega
  have hGi : ¬ (G = i) := by omega
  have hGim : ¬ (G = i + 1) := by omega
  have hci : ¬ (cap = i) := by omega
  have hG63 : G ≤ 9223372036854775807 := by unfold maxLen at hGm; omega
  have hc3 : (cap : Int) < (n : Int) + 1 := by omega
  have HN := Lib.hid hn
  clear hW1 hold hROW hG hRs hRt hx h1 hv hvc hb hN hNf hn hi0 hz0 hzs hzb
  go_enter Try.func43, Try.ntmps43
  go_wp2_with (first
    | (at_builtin; refine Lib.wpList_append_run _ rfl _ _ _ _ rfl _ _ rfl rfl _ _ (hrz _) ?_)
    | (at_builtin; refine wpList_copy_known _ rfl _ _ 22 22 rfl _ _ rfl rfl (hcpA _ _) ?_))
  go_region_law (refine step_copy_known rfl _ _ 22 22 rfl _ _ (by simp [Act.eval, Act.put]) (by simp [Act.eval, Act.put]) (hcpB _ _ _) ?_)
  go_wp2
  go_ret
  exact HEnd.out _ _ (by rw [HW1.out])

set_option maxRecDepth 100000 in
set_option maxHeartbeats 8000000 in
/-- Behind all. -/
theorem insertEnd (v : Value) (xs : List Value) (h : Tail w v xs) (vb : Nat) (x : Value) (T : TypeId) (h1x : x.oneCell' = true) (hv : w.heap[vb]? = some (.cells #[x] T (0, 0))) (hn : xs.length ≤ 1000) :
    Calls Try.prog 43 #[v, .int .i64 xs.length, .slice (some ⟨vb, 0, none⟩) 1 1] w (TailPost w v (xs ++ [x])) := by
  obtain ⟨i0, hi0, hz0, hzs, hzb⟩ := info_parts infoI32
  have hvc : w.cell? ⟨vb, 0, none⟩ = some x := by simp [World.cell?, hv]
  have hs : Src Try.prog 1 22 (.slice (some ⟨vb, 0, none⟩) 1 1) 1 [x] w := Src.ofSlice w Try.underlying22 ⟨vb, 0, none⟩ 1 1 [x] rfl (fun j u hj => by
    match j with
    | 0 => simp at hj; subst hj; rw [Addr.add_lit]; exact hvc
    | j + 1 => simp at hj) (by simpa using h1x)
  obtain ⟨ao, cap, rfl, hc⟩ := h.shape
  have HT := Lib.hid h
  have HS := Lib.hid hs
  have hlt : ∀ g off sp, ao = some ⟨g, off, sp⟩ → sp = none := fun g off sp e => by
    rcases h with ⟨h', _⟩ | ⟨g', off', cap', h', _⟩
    · simp only [Value.slice.injEq] at h'; rw [h'.1] at e; cases e
    · simp only [Value.slice.injEq] at h'; rw [h'.1] at e; simp only [Option.some.injEq, Addr.mk.injEq] at e; exact e.2.2.symm
  generalize hnn : xs.length = n at *
  have HN := Lib.hid hnn
  clear h hs hv hvc hnn
  rcases ao with _ | ⟨g, off, sp⟩
  · have h0 : n = 0 := by
      rcases HT.out with ⟨_, h'⟩ | ⟨g', off', cap', h', _⟩
      · rw [← HN.out, h']; rfl
      · simp at h'
    subst h0
    go_enter Try.func43, Try.ntmps43
    go_wp2_with (at_builtin; refine wpList_append_tail _ rfl (.tmp 23) (.tmp 24) 22 rfl 21 i0 _ 4 Try.underlying22 hi0 hz0 hzs hzb rfl _ xs rfl HT.out _ 1 [x] rfl HS.out (by rw [HN.out]; simp only [maxLen]; omega) (by rw [HN.out]; omega) ?_; intro v' w' t' g' l'; have HE := Lib.hid (show TailPost w (.slice none 0 cap) (xs ++ [x]) (.returned v') w' from ⟨v', rfl, t', g', l'⟩); clear t' g' l')
    go_ret
    exact HE.out
  · obtain rfl := hlt g off sp rfl
    have hci : (n : Int) ≤ cap := by omega
    clear hlt
    by_cases hcn : cap = n
    · subst hcn
      go_enter Try.func43, Try.ntmps43
      go_wp2_with (at_builtin; refine wpList_append_tail _ rfl (.tmp 23) (.tmp 24) 22 rfl 21 i0 _ 4 Try.underlying22 hi0 hz0 hzs hzb rfl _ xs rfl HT.out _ 1 [x] rfl HS.out (by rw [HN.out]; simp only [maxLen]; omega) (by rw [HN.out]; omega) ?_; intro v' w' t' g' l'; have HE := Lib.hid (show TailPost w _ (xs ++ [x]) (.returned v') w' from ⟨v', rfl, t', g', l'⟩); clear t' g' l')
      go_ret
      exact HE.out
    · go_enter Try.func43, Try.ntmps43
      go_wp2_with (at_builtin; refine wpList_append_tail _ rfl (.tmp 23) (.tmp 24) 22 rfl 21 i0 _ 4 Try.underlying22 hi0 hz0 hzs hzb rfl _ xs rfl HT.out _ 1 [x] rfl HS.out (by rw [HN.out]; simp only [maxLen]; omega) (by rw [HN.out]; omega) ?_; intro v' w' t' g' l'; have HE := Lib.hid (show TailPost w _ (xs ++ [x]) (.returned v') w' from ⟨v', rfl, t', g', l'⟩); clear t' g' l')
      go_ret
      exact HE.out

/-- Wherever it is to stand. -/
theorem insertAny (v : Value) (zs : List Int) (h : Tail w v (zs.map (Value.int .i32))) (i vb : Nat) (x : Int) (T : TypeId) (hv : w.heap[vb]? = some (.cells #[.int .i32 x] T (0, 0))) (hne : v.ownBlock ≠ some vb) (hi : i ≤ zs.length) (hn : zs.length ≤ 1000) (z : Int) (hz : z = i) :
    Calls Try.prog 43 #[v, .int .i64 z, .slice (some ⟨vb, 0, none⟩) 1 1] w (TailPost w v ((zs.take i ++ x :: zs.drop i).map (Value.int .i32))) := by
  subst hz
  have e : (zs.take i ++ x :: zs.drop i).map (Value.int .i32) = (zs.map (Value.int .i32)).take i ++ .int .i32 x :: (zs.map (Value.int .i32)).drop i := by simp [List.map_take, List.map_drop]
  rw [e]
  by_cases h0 : i = zs.length
  · subst h0
    have := insertEnd v _ h vb (.int .i32 x) T rfl hv (by simpa using hn)
    rw [List.take_of_length_le (by simp), List.drop_eq_nil_of_le (by simp)]
    simpa using this
  · rcases h with ⟨_, h'⟩ | ⟨g, off, cap, rfl, hl, hc, hm, hx, hr⟩
    · simp at h'; subst h'; simp at hi h0; omega
    · by_cases hroom : (zs.map (Value.int .i32)).length + 1 ≤ cap
      · exact insertShift g off cap i vb _ _ T hl hm hx hr (ints_oneCell _ _) rfl hv (by simpa [Value.ownBlock, eq_comm] using hne) (by simp; omega) hroom
      · exact insertGrow g off cap i vb _ _ T hl hx (ints_oneCell _ _) rfl hv (by simp; omega) hc (by omega) (by simpa using hn)
end

end Go.Proofs.Ytejnadokjnfagaa
