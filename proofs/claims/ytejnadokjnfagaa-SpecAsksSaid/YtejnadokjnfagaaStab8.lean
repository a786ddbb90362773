/-
  slices.SortStableFunc sorts a row of ints that rises, by keys, and keeps the order of those of one key. Conditions: a row of one's own; a comparison as CmpAt says.
-/
import Derived.Test.YtejnadokjnfagaaSym8
namespace Go.Proofs.Ytejnadokjnfagaa
open Go.RowKit

/-- The first k blocks are sorted; behind them all is as it was. -/
def Stab1 (key : Int → Int) (z d : List Int) (k : Nat) : Prop := d.length = z.length ∧ (∀ i, i < k → BlkOk key 20 i z d) ∧ d.drop (20 * k) = z.drop (20 * k)
/-- The first k blocks of 2 s are sorted; behind them those of s are. -/
def Stab2 (key : Int → Int) (s : Nat) (z d : List Int) (k : Nat) : Prop := d.length = z.length ∧ (∀ i, i < k → BlkOk key (2 * s) i z d) ∧ ∀ i, 2 * k ≤ i → BlkOk key s i z d

theorem blkOk_none {key : Int → Int} {s i : Nat} {z d : List Int} (hl : d.length = z.length) (h : z.length ≤ s * i) : BlkOk key s i z d := by
  unfold BlkOk
  rw [blk_none (by omega), blk_none h]
  exact ⟨List.Pairwise.nil, List.Perm.refl _⟩

theorem stab1_start (key : Int → Int) (z : List Int) : Stab1 key z z 0 := ⟨rfl, fun i hi => by omega, rfl⟩
/-- One block more. -/
theorem stab1_next {key : Int → Int} {z d M : List Int} {k : Nat} (h : Stab1 key z d k) (hk : 20 * k + 20 ≤ z.length) (hp : M.Perm ((d.drop (20 * k)).take 20)) (hs : Srt key M) : Stab1 key z (d.take (20 * k) ++ M ++ d.drop (20 * k + 20)) (k + 1) := by
  obtain ⟨h1, h2, h3⟩ := h
  have hM : M.length = 20 := by rw [hp.length_eq]; simp; omega
  have hT : (d.take (20 * k)).length = 20 * k := by simp; omega
  refine ⟨by simp; omega, fun i hi => ?_, ?_⟩
  · rcases Nat.lt_or_ge i k with h4 | h4
    · obtain ⟨a1, a2⟩ := h2 i h4
      have e : blk 20 i (d.take (20 * k) ++ M ++ d.drop (20 * k + 20)) = blk 20 i d := by
        rw [List.append_assoc, blk_ahead (a := 20 * k) hT.symm (by omega)]
        conv => rhs; rw [← List.take_append_drop (20 * k) d]
        rw [blk_ahead (a := 20 * k) hT.symm (by omega)]
      unfold BlkOk
      rw [e]
      exact ⟨a1, a2⟩
    · obtain rfl : i = k := by omega
      unfold BlkOk
      rw [blk_here hT (.inl hM)]
      refine ⟨hs, ?_⟩
      rw [h3] at hp
      exact hp
  · rw [show 20 * (k + 1) = (d.take (20 * k) ++ M).length by simp; omega, List.drop_left]
    have : d.drop (20 * k + 20) = z.drop (20 * k + 20) := by rw [← List.drop_drop, ← List.drop_drop, h3]
    rw [this, show (d.take (20 * k) ++ M).length = 20 * k + 20 by simp; omega]
/-- The rest. -/
theorem stab1_end {key : Int → Int} {z d M : List Int} {k : Nat} (h : Stab1 key z d k) (hk : z.length < 20 * k + 20) (hk0 : 20 * k ≤ z.length) (hp : M.Perm (d.drop (20 * k))) (hs : Srt key M) : Stab2 key 20 z (d.take (20 * k) ++ M) 0 := by
  obtain ⟨h1, h2, h3⟩ := h
  have hM : M.length = d.length - 20 * k := by rw [hp.length_eq]; simp
  have hT : (d.take (20 * k)).length = 20 * k := by simp; omega
  have hl : (d.take (20 * k) ++ M).length = z.length := by simp; omega
  refine ⟨hl, fun i hi => by omega, fun i _ => ?_⟩
  rcases Nat.lt_trichotomy i k with h4 | h4 | h4
  · obtain ⟨a1, a2⟩ := h2 i h4
    have e : blk 20 i (d.take (20 * k) ++ M) = blk 20 i d := by
      rw [blk_ahead (a := 20 * k) hT.symm (by omega)]
      conv => rhs; rw [← List.take_append_drop (20 * k) d]
      rw [blk_ahead (a := 20 * k) hT.symm (by omega)]
    unfold BlkOk
    rw [e]
    exact ⟨a1, a2⟩
  · subst h4
    have e : blk 20 i (d.take (20 * i) ++ M) = M := by
      have := blk_here (bs := 20) (i := i) (p := d.take (20 * i)) (m := M) (s := []) hT (.inr ⟨by omega, rfl⟩)
      simpa using this
    unfold BlkOk
    rw [e]
    refine ⟨hs, ?_⟩
    rw [h3] at hp
    unfold blk
    rw [List.take_of_length_le (by simp; omega)]
    exact hp
  · exact blkOk_none hl (by
      have : 20 * (k + 1) ≤ 20 * i := Nat.mul_le_mul_left _ (by omega)
      omega)

/-- Two blocks become one. -/
theorem stab2_next {key : Int → Int} {s : Nat} {z d M : List Int} {k b : Nat} (h : Stab2 key s z d k) (hk : 2 * s * k ≤ z.length) (hb : b = min (2 * s * k + 2 * s) z.length) (hp : M.Perm (blk s (2 * k) d ++ blk s (2 * k + 1) d)) (hs : Srt key M) :
    Stab2 key s z (d.take (2 * s * k) ++ M ++ d.drop b) (k + 1) := by
  obtain ⟨h1, h2, h3⟩ := h
  have p1 := (h3 (2 * k) (Nat.le_refl _)).2
  have p2 := (h3 (2 * k + 1) (by omega)).2
  have hM : M.length = (blk (2 * s) k d).length := by rw [hp.length_eq, blk_two]
  have hB : (blk (2 * s) k d).length = b - 2 * s * k := by unfold blk; simp; omega
  have hT : (d.take (2 * s * k)).length = 2 * s * k := by simp; omega
  have hl : (d.take (2 * s * k) ++ M ++ d.drop b).length = z.length := by simp; omega
  have e0 : 2 * s * k + 2 * s = 2 * s * (k + 1) := by rw [Nat.mul_add, Nat.mul_one]
  refine ⟨hl, fun i hi => ?_, fun i hi => ?_⟩
  · rcases Nat.lt_or_ge i k with h4 | h4
    · have hle : 2 * s * i + 2 * s ≤ 2 * s * k := by
        have := Nat.mul_le_mul_left (2 * s) (show i + 1 ≤ k by omega)
        rw [Nat.mul_add, Nat.mul_one] at this
        exact this
      obtain ⟨a1, a2⟩ := h2 i h4
      have e : blk (2 * s) i (d.take (2 * s * k) ++ M ++ d.drop b) = blk (2 * s) i d := by
        rw [List.append_assoc, blk_ahead (a := 2 * s * k) hT.symm hle]
        conv => rhs; rw [← List.take_append_drop (2 * s * k) d]
        rw [blk_ahead (a := 2 * s * k) hT.symm hle]
      unfold BlkOk
      rw [e]
      exact ⟨a1, a2⟩
    · obtain rfl : i = k := by omega
      unfold BlkOk
      have hm : M.length = 2 * s ∨ (M.length ≤ 2 * s ∧ d.drop b = []) := by
        rcases Nat.lt_or_ge z.length (2 * s * i + 2 * s) with h5 | h5
        · right; exact ⟨by omega, List.drop_eq_nil_of_le (by omega)⟩
        · left; omega
      rw [blk_here hT hm]
      refine ⟨hs, hp.trans ?_⟩
      rw [blk_two]
      exact p1.append p2
  · obtain ⟨a1, a2⟩ := h3 i (by omega)
    rcases Nat.lt_or_ge z.length (2 * s * k + 2 * s) with h5 | h5
    · refine blkOk_none hl ?_
      have : s * (2 * (k + 1)) ≤ s * i := Nat.mul_le_mul_left _ hi
      have e : s * (2 * (k + 1)) = 2 * s * (k + 1) := by rw [← Nat.mul_assoc, Nat.mul_comm s 2]
      omega
    · have e : blk s i (d.take (2 * s * k) ++ M ++ d.drop b) = blk s i d := by
        have hb' : b = 2 * s * k + 2 * s := by omega
        have hle : (d.take (2 * s * k) ++ M).length ≤ s * i := by
          have : s * (2 * (k + 1)) ≤ s * i := Nat.mul_le_mul_left _ hi
          have e : s * (2 * (k + 1)) = 2 * s * (k + 1) := by rw [← Nat.mul_assoc, Nat.mul_comm s 2]
          simp
          omega
        conv => rhs; rw [← List.take_append_drop b d]
        exact blk_behind (by simp; omega) hle
      unfold BlkOk
      rw [e]
      exact ⟨a1, a2⟩
/-- All pairs are through: blocks of twice as many. -/
theorem stab2_done {key : Int → Int} {s : Nat} {z d : List Int} {k : Nat} (h : Stab2 key s z d k) (hk : z.length ≤ 2 * s * k + s) : Stab2 key (2 * s) z d 0 := by
  obtain ⟨h1, h2, h3⟩ := h
  refine ⟨h1, fun i hi => by omega, fun i _ => ?_⟩
  rcases Nat.lt_or_ge i k with h4 | h4
  · exact h2 i h4
  · have e1 := h3 (2 * i) (by omega)
    unfold BlkOk
    have hn : ∀ l : List Int, l.length = z.length → blk s (2 * i + 1) l = [] := fun l hl => blk_none (by
      have : 2 * s * k ≤ 2 * s * i := Nat.mul_le_mul_left _ h4
      have e : s * (2 * i + 1) = 2 * s * i + s := by rw [Nat.mul_add, Nat.mul_one, ← Nat.mul_assoc, Nat.mul_comm s 2]
      omega)
    rw [blk_two, blk_two, hn d h1, hn z rfl, List.append_nil, List.append_nil]
    exact e1
theorem stab2_end {key : Int → Int} {s : Nat} {z d : List Int} (h : Stab2 key s z d 0) (hs : z.length ≤ s) : d.Perm z ∧ Srt key d := by
  obtain ⟨h1, _, h3⟩ := h
  obtain ⟨a1, a2⟩ := h3 0 (by omega)
  rw [blk_all (by omega)] at a1 a2
  rw [blk_all hs] at a2
  exact ⟨a2, a1⟩

/-- Two blocks side by side may be merged. -/
theorem stab2_two {key : Int → Int} {s : Nat} {z d : List Int} {k : Nat} {N : Int} (h : Stab2 key s z d k) (hz : Rises N z) (hs : 0 < s) (hk : 2 * s * k + s < z.length) : TwoOk key N (blk s (2 * k) d) (blk s (2 * k + 1) d) := by
  obtain ⟨h1, _, h3⟩ := h
  obtain ⟨a1, a2⟩ := h3 (2 * k) (Nat.le_refl _)
  obtain ⟨b1, b2⟩ := h3 (2 * k + 1) (by omega)
  have e : s * (2 * k + 1) = 2 * s * k + s := by rw [Nat.mul_add, Nat.mul_one, ← Nat.mul_assoc, Nat.mul_comm s 2]
  have e' : s * (2 * k) = 2 * s * k := by rw [← Nat.mul_assoc, Nat.mul_comm s 2]
  refine ⟨by unfold blk; simp; omega, by unfold blk; simp; omega, a1, b1, fun x hx y hy => blk_rise hz.up x (a2.mem_iff.1 hx) y (b2.mem_iff.1 hy), fun x hx => hz.ok x ?_⟩
  rcases List.mem_append.1 hx with h4 | h4
  · exact List.mem_of_mem_drop (List.mem_of_mem_take (a2.mem_iff.1 h4))
  · exact List.mem_of_mem_drop (List.mem_of_mem_take (b2.mem_iff.1 h4))

theorem two_parts {s k b : Nat} {d : List Int} (hb : b = min (2 * s * k + 2 * s) d.length) (_ : 2 * s * k ≤ d.length) : d = d.take (2 * s * k) ++ blk s (2 * k) d ++ blk s (2 * k + 1) d ++ d.drop b := by
  rw [List.append_assoc (d.take _), ← blk_two]
  unfold blk
  have e : (d.drop (2 * s * k)).take (2 * s) ++ d.drop b = d.drop (2 * s * k) := by
    rcases Nat.lt_or_ge d.length (2 * s * k + 2 * s) with h | h
    · rw [List.take_of_length_le (by simp; omega), List.drop_eq_nil_of_le (show d.length ≤ b by omega), List.append_nil]
    · have : d.drop b = (d.drop (2 * s * k)).drop (2 * s) := by rw [List.drop_drop]; congr 1; omega
      rw [this, List.take_append_drop]
  rw [List.append_assoc, e, List.take_append_drop]

end Go.Proofs.Ytejnadokjnfagaa
