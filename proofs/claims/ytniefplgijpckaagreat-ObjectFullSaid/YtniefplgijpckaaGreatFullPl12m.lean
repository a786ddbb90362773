/-
  Batches in which nothing is done, in plain lists: what each is told, and that all stays. Conditions: none; no Go function is looked at here.
-/
import Derived.Test.YtniefplgijpckaaGreatPl12m
import Derived.Test.YtniefplgijpckaaGreatPlc12m
namespace Go.Proofs.YtniefplgijpckaaGreat
open Go.RowKit Go.Lib

section
variable {k m : Int} {zs : List Int} {os : List (Int × Int)} {i : Nat}
/-- What a batch tells at a place of the order; each place is one of the order. -/
theorem batT_at12 (h : i < os.length) : (batT k m zs os).getD ((ordL k os).getD i 0).toNat (0, 0) = (runT k m zs (ordO k os)).getD i (0, 0) :=
  placeK_at (ordL_nodup k os) (fun _ hx => mem_ordL.1 hx) (ordL_length k os) os.length i (Nat.le_refl _) h
theorem ord_place12 (h : i < os.length) : ∃ j, j < os.length ∧ (ordL k os).getD j 0 = (i : Int) := by
  have hm : (i : Int) ∈ ordL k os := mem_ordL.2 ⟨by omega, by omega⟩
  obtain ⟨j, hj, e⟩ := List.getElem_of_mem hm
  rw [ordL_length] at hj
  exact ⟨j, hj, by simp [List.getD, show j < (ordL k os).length by rw [ordL_length]; exact hj, e]⟩
theorem ordO_mem {o : Int × Int} (h : o ∈ ordO k os) : o ∈ os := by
  unfold ordO at h
  rw [List.mem_map] at h
  obtain ⟨x, hx, rfl⟩ := h
  obtain ⟨h0, h1⟩ := mem_ordL.1 hx
  have : x.toNat < os.length := by omega
  simp [List.getD, this]

/-- Nothing is done: of whatever is no operation, and of one that puts where all is full. -/
def Idle (m : Int) (zs : List Int) (o : Int × Int) : Prop := o.1 = 9 ∨ (o.1 = 1 ∧ (zs.length : Int) = m)
theorem idle_step (hk : k = 1 ∨ k = 2 ∨ k = 3) {o : Int × Int} (h : Idle m zs o) : objL k m zs o.1 o.2 = zs ∧ (objC k m zs o.1 = 5 ∨ objC k m zs o.1 = 3) := by
  obtain ⟨a, v⟩ := o
  rcases h with h | ⟨h, hf⟩
  · simp only at h; subst h
    rcases hk with rfl | rfl | rfl <;> simp [objL, objC, stkL, stkC, dqL, dqC, hpL, hpC]
  · simp only at h; subst h
    have hn : ¬ (zs.length : Int) < m := by omega
    rcases hk with rfl | rfl | rfl <;> simp [objL, objC, stkL, stkC, dqL, dqC, hpL, hpC, hn]
theorem idle_run (hk : k = 1 ∨ k = 2 ∨ k = 3) : ∀ os : List (Int × Int), (∀ o ∈ os, Idle m zs o) → runZ k m zs os = zs
  | [], _ => rfl
  | o :: os, h => by
    show runZ k m (objL k m zs o.1 o.2) os = zs
    rw [(idle_step hk (h o (by simp))).1]
    exact idle_run hk os (fun x hx => h x (by simp [hx]))
theorem idle_bat (hk : k = 1 ∨ k = 2 ∨ k = 3) (h : ∀ o ∈ os, Idle m zs o) : batZ k m zs os = zs := idle_run hk _ (fun _ ho => h _ (ordO_mem ho))
theorem idle_told (hk : k = 1 ∨ k = 2 ∨ k = 3) (h : ∀ o ∈ os, Idle m zs o) (hi : i < os.length) : ((batT k m zs os).getD i (0, 0)).1 = 5 ∨ ((batT k m zs os).getD i (0, 0)).1 = 3 := by
  obtain ⟨j, hj, e⟩ := ord_place12 (k := k) hi
  have e1 := batT_at12 (k := k) (m := m) (zs := zs) hj
  rw [e, Int.toNat_natCast] at e1
  have hjo : j < (ordO k os).length := by rw [ordO_length]; exact hj
  rw [e1, runT_at12 hjo, idle_run hk _ (fun x hx => h x (ordO_mem (k := k) (List.mem_of_mem_take hx)))]
  have hmem : (ordO k os).getD j (0, 0) ∈ ordO k os := by simp [List.getD, hjo]
  exact (idle_step hk (h _ (ordO_mem hmem))).2

/-- What is put into the batch, of the first j. -/
def putL (f : Bool) : Nat → List (Int × Int)
  | 0 => []
  | j + 1 => putL f j ++ (9, (j : Int)) :: (if f then [(1, (j : Int))] else [])
theorem putL_length (f : Bool) : ∀ j, (putL f j).length ≤ 2 * j
  | 0 => by simp [putL]
  | j + 1 => by
    have := putL_length f j
    unfold putL
    cases f <;> simp <;> omega
theorem putL_idle {f : Bool} (hf : f = true → (zs.length : Int) = m) : ∀ j, ∀ o ∈ putL f j, Idle m zs o
  | 0, o, h => by simp [putL] at h
  | j + 1, o, h => by
    unfold putL at h
    rw [List.mem_append, List.mem_cons] at h
    rcases h with h | h | h
    · exact putL_idle hf j o h
    · subst h; exact .inl rfl
    · cases f
      · simp at h
      · simp at h; subst h; exact .inr ⟨rfl, hf rfl⟩
theorem putL_ok (f : Bool) : ∀ j, j ≤ 100 → ∀ o ∈ putL f j, OpOk o
  | 0, _, o, h => by simp [putL] at h
  | j + 1, hj, o, h => by
    unfold putL at h
    rw [List.mem_append, List.mem_cons] at h
    rcases h with h | h | h
    · exact putL_ok f j (by omega) o h
    · subst h; simp only [OpOk]; omega
    · cases f
      · simp at h
      · simp at h; subst h; simp only [OpOk]; omega
end

section
variable {w5 wr w1 : World} {os : List (Int × Int)} {v v' : Value} {a b : Int} {o : Obj}
/-- Operations in a row of one's own that grows. -/
def PutAt (w5 : World) (os : List (Int × Int)) (v : Value) (wr : World) : Prop := wr.ownsRow w5.heap.size 49 2 v os.length (flatO os) ∧ Below w5.heap.size w5 wr
theorem PutAt.none (w5 : World) : PutAt w5 [] (.slice none 0 0) w5 := ⟨by simpa [flatO] using World.ownsRow_nil w5 w5.heap.size 49 2, Below.refl _ _⟩
theorem PutAt.one (h : PutAt w5 os v wr) (q : w1.ownsRow w5.heap.size 49 2 v' (os.length + 1) (flatO os ++ [.int .u8 a, .int .i32 b])) (g : (wr.alloc o).grownBy w1 v.ownBlock) : PutAt w5 (os ++ [(a, b)]) v' w1 := by
  refine ⟨?_, (h.2.alloc h.2.size o).grown g (Nat.le_trans h.2.size (by simp)) (fun k e => (h.1.lt k e).1)⟩
  rw [flatO_snoc, List.length_append]
  exact q
end

end Go.Proofs.YtniefplgijpckaaGreat
