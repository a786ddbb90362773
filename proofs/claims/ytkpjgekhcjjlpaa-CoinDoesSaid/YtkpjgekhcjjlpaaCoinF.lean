/-
  What Feed of package coin does, at every coin and at nil. Conditions: a coin as Coin says; at most a million bytes, none of which lies in the coin's own memory.
-/
import Derived.Test.YtkpjgekhcjjlpaaCoinH
import Derived.Laws.BitsAllLaws
namespace Go.Proofs.Ytkpjgekhcjjlpaa
open Go.RowKit

theorem feedNil (v : Value) (w : World) :
    Calls Try.prog 11 #[.pointer none, v] w fun e w' => e = .returned (.tuple #[]) ∧ w = w' := by
  go_enter Try.func11, Try.ntmps11
  go_wp2
  refine bodyPost_ret (results_none rfl _ _ _) rfl ?_
  exact ⟨rfl, rfl⟩

theorem low1 (x : Int) (h0 : 0 ≤ x) (h1 : x < 256) : (bits .and .u8 x 1 == 1) = decide (x % 2 = 1) := by
  rw [u8_and x 1 h0 h1 (by omega) (by omega), show (1 : Int).toNat = 1 from rfl, Nat.and_one_is_mod]
  have e : ((x.toNat % 2 : Nat) : Int) = x % 2 := by omega
  rw [e]
  by_cases h : x % 2 = 1 <;> simp [h]

theorem part_in (z : Int) (q : Nat) (z0 : 0 ≤ z) (z1 : z ≤ 255) : 0 ≤ z / 2 ^ q ∧ z / 2 ^ q < 256 := by
  have h2 : (0 : Int) < 2 ^ q := Int.pow_pos (by omega)
  exact ⟨Int.ediv_nonneg z0 (Int.le_of_lt h2), by have := Int.ediv_le_self (2 ^ q) z0; omega⟩

/-- The bit of a byte, as the program has it. -/
theorem bit_is (zs : List Int) (k q : Nat) (hq : q < 8) (z : Int) (hz : z = zs.getD k 0) (z0 : 0 ≤ z) (z1 : z ≤ 255) : (bits .and .u8 (z / 2 ^ q) 1 == 1) = bitAt zs (8 * k + q) := by
  obtain ⟨h0, h1⟩ := part_in z q z0 z1
  rw [low1 _ h0 h1, bitAt, show (8 * k + q) / 8 = k by omega, show (8 * k + q) % 8 = q by omega, ← hz]

section
variable {w : World} {F : Nat → Prop} {p : Nat} {bs : List Bool}

/-- What stands behind the append and the store of one bit. -/
theorem fed_mk {v v' : Value} {w1 : World} {o : Obj} {b : Bool} (m : CoinV w p v bs) (h2 : F p) (h3 : ∀ g, v.ownBlock = some g → F g) (h4 : ∀ g, F g → g < w.heap.size) (hf : bs.length < 20000)
    (ht : Tail w1 v' (bs.map Value.bool ++ [.bool b])) (hg : (w.drew.alloc o).grownBy w1 v.ownBlock) (hl : ∀ g, v'.ownBlock = some g → v.ownBlock = some g ∨ (w.drew.alloc o).heap.size ≤ g) :
    w1.cell? ⟨p, 0, none⟩ = some v ∧ w1.frozen? ⟨p, 0, none⟩ = false ∧ Did F p (bs ++ [b]) w (w1.setCell ⟨p, 0, none⟩ v') := by
  have hp := m.lt
  have ep : w1.heap[p]? = w.heap[p]? := (hg.block p (by simp; omega) (fun e => m.ne e.symm)).trans (Below.heap_alloc w.drew _ _ hp)
  have hne : v'.ownBlock ≠ some p := fun e => by
    rcases hl p e with e' | e'
    · exact m.ne e'
    · simp at e'; omega
  have kb : w1.heap[p]? = some (.cells #[v] 45 (0, 0)) := ep.trans m.block
  refine ⟨by simp [World.cell?, kb], by simp [World.frozen?, kb], fun g => F g ∨ v'.ownBlock = some g, ⟨v', ⟨?_, ?_, hne, by simp; omega⟩, .inl h2, fun g hg' => .inr hg', ?_⟩, ?_, ?_⟩
  · rw [heap_setCell_same w1 p 0 _ _ _ kb]; rfl
  · have := ht.other (p := ⟨p, 0, none⟩) hne v'
    simpa using this
  · intro g hg'
    have hs : w.heap.size ≤ w1.heap.size := Nat.le_trans (by simp) hg.size
    rcases hg' with h | h
    · have := h4 g h
      simp [World.setCell]; omega
    · simpa [World.setCell] using ht.lt h
  · exact ((((Wrote.refl F w).drew).alloc o).grown hg (fun g e => .inl (h3 g e))).setCell (.inr h2) _
  · intro g hg'
    rcases hg' with h | h
    · exact .inl h
    · rcases hl g h with e | e
      · exact .inl (h3 g e)
      · exact .inr (by simp at e; omega)

set_option maxHeartbeats 1600000 in
theorem feedAny (h : Coin w F p bs) {ao : Option Addr} {n cap : Nat} {zs : List Int} (hr : Reads .u8 w ao n zs) (ho : 0 < n → Off F ao) (hz : ∀ z ∈ zs, 0 ≤ z ∧ z ≤ 255) (hn : n ≤ 1000000) :
    Calls Try.prog 11 #[.pointer (some ⟨p, 0, none⟩), .slice ao n cap] w fun e w' => e = .returned (.tuple #[]) ∧ Did F p (feedL bs zs) w w' := by
  have HS := Lib.hid (show Did F p (fed bs zs 0) w w by rw [fed_zero _ _ h.len]; exact h.did (Below.refl _ _))
  have HR := Lib.hid (And.intro hr (And.intro ho hz))
  have HL := Lib.hid hr.1
  obtain ⟨i0, hi, hz0, hz1, hz2⟩ := info_parts infoBool
  clear h hr ho hz
  go_enter Try.func11, Try.ntmps11
  go_wp2
  go_loopw [11] (fun i wr => ∃ k : Nat, k ≤ n ∧ i = .int .i64 k ∧ Did F p (fed bs zs (8 * k)) w wr) (fun i _ => n - (intOf i).toNat)
  case atStart => exact ⟨0, Nat.zero_le _, rfl, HS.out⟩
  case round =>
    obtain ⟨k, hk, rfl, hd⟩ := hrel
    have HD := Lib.hid hd
    clear hd HS
    by_cases hlt : k < n
    · obtain ⟨b1, o1, rfl, l1, h1⟩ := (HR.out.1.off (HR.out.2.1 (by omega)) (HD.out.choose_spec.2.1)).2 (by omega)
      have c1 := h1 k hlt
      have hzk : 0 ≤ zs.getD k 0 ∧ zs.getD k 0 ≤ 255 := by
        have : k < zs.length := by rw [HL.out]; exact hlt
        simpa [List.getD, this] using HR.out.2.2 (zs[k]) (List.getElem_mem this)
      obtain ⟨z, hze⟩ : ∃ z, z = zs.getD k 0 := ⟨_, rfl⟩
      rw [← hze] at c1 hzk
      obtain ⟨z0, z1⟩ := hzk
      have HZ := Lib.hid hze
      clear h1 hze
      have i1 : (k : Int) < n := by omega
      go_wp2
      go_loopw [15] (fun i wr => ∃ q : Nat, q ≤ 8 ∧ i = .int .i64 q ∧ Did F p (fed bs zs (8 * k + q)) w wr) (fun i _ => 8 - (intOf i).toNat)
      case atStart => exact ⟨0, Nat.zero_le _, rfl, HD.out⟩
      case round =>
        obtain ⟨q, hq, rfl, hd⟩ := hrel
        by_cases h8 : q < 8
        · obtain ⟨cs, hcs⟩ : ∃ cs, cs = fed bs zs (8 * k + q) := ⟨_, rfl⟩
          rw [← hcs] at hd
          have HD := Lib.hid hd
          have HC := Lib.hid hcs
          obtain ⟨F', c, wr', l⟩ := hd
          obtain ⟨v, m, h2, h3, h4⟩ := c
          obtain ⟨ao', cap', rfl, hc⟩ := m.shape
          have c0 := m.c0
          have hpl := m.lt
          have HT := Lib.hid m.row.drew
          have HX := Lib.hid (fun (xs : List Bool) (w1 : World) (d : Did F' p xs wr w1) => Did.trans wr' l d)
          have HE := Lib.hid (fun (hf : cs.length < 20000) (o : Obj) (b : Bool) (v' : Value) (w1 : World) ht hg hl => (fed_mk (o := o) (b := b) (v' := v') (w1 := w1) m h2 h3 h4 hf ht hg hl))
          have i8 : (q : Int) < 8 := by omega
          clear hcs m h2 h3 h4 wr' l
          by_cases hfull : cs.length < 20000
          · have hf' : (cs.length : Int) < 20000 := by omega
            have hb : decide ((20000 : Int) ≤ (cs.length : Int)) = false := by simpa using hf'
            have HF := Lib.hid hf'
            clear hfull hf'
            go_upto_region 8 with (fail)
            have hlen := Lib.hid (show cs.length + 1 ≤ maxLen by simp only [maxLen]; have := HF.out; omega)
            have hlen2 := Lib.hid (show cs.length + 1 ≤ 140737488355328 by have := HF.out; omega)
            go_region_law (refine step_append_tail _ rfl _ _ 29 rfl 4 i0 _ 1 Try.underlying29 hi hz0 hz1 hz2 rfl _ _ rfl (HT.out.alloc _) _ 1 [.bool (bits .and .u8 (z / 2 ^ q) 1 == 1)] rfl (Src.ofSlice _ Try.underlying29 ⟨wr.heap.size, 0, none⟩ 1 1 _ rfl (by intro j u hu; cases j <;> simp at hu; subst hu; go_simp) (by intro u hu; simp at hu; subst hu; rfl)) (by rw [List.length_map]; exact hlen.out) (by rw [List.length_map, Nat.mul_one]; exact hlen2.out) ?_; intro v' w4 t4 g4 l4; obtain ⟨q1, q2, q3⟩ := HE.out (by have := HF.out; omega) _ _ v' w4 t4 g4 l4; obtain ⟨ao4, cap4, hv4, _⟩ := t4.shape; rw [List.length_append, List.length_map, List.length_singleton] at hv4; subst hv4; have HG := Lib.hid (HX.out _ _ q3); clear q3 t4 g4 l4)
            all_goals
              go_wp2
              go_roundw
              case rel =>
                have e := HC.out
                have e2 := HZ.out
                have hd2 := HG.out
                have e3 : cs ++ [(bits .and .u8 (z / 2 ^ q) 1 == 1)] = fed bs zs (8 * k + (q + 1)) := by rw [bit_is zs k q (by omega) z e2 z0 z1, ← Nat.add_assoc, fed_succ _ _ _ (by rw [← e]; have := HF.out; omega), e]
                rw [e3] at hd2
                exact ⟨q + 1, by omega, by go_num, hd2⟩
              case measure => simp [intOf]; omega
          · have hf' : (20000 : Int) ≤ (cs.length : Int) := by omega
            clear hfull
            go_wp2
            refine bodyPost_ret (results_none rfl _ _ _) rfl ?_
            have e := HC.out
            exact ⟨rfl, by unfold feedL; rw [HL.out, fed_full bs zs (m := 8 * k + q) (by omega) (by rw [← e]; omega), ← e]; exact HD.out⟩
        · go_wp2
          go_roundw
          case rel => exact ⟨k + 1, by omega, by go_num, by rw [show 8 * (k + 1) = 8 * k + q by omega]; exact hd⟩
          case measure => simp [intOf]; omega
    · obtain rfl : k = n := by omega
      go_wp2
      first | go_end0 | refine bodyPost_ret (results_none rfl _ _ _) rfl ?_
      exact ⟨rfl, by unfold feedL; rw [HL.out]; exact HD.out⟩
end

end Go.Proofs.Ytkpjgekhcjjlpaa
