/-
  What Height and Copy of package coin do, at every coin and at nil. Conditions: a coin as Coin says.
-/
import Derived.Test.YtkpjgekhcjjlpaaCoin
import Derived.WalkMore
import Derived.Deep.LoopGhost
namespace Go.Proofs.Ytkpjgekhcjjlpaa
open Go.RowKit

/-- In the midst of a height: j is what it is so far. -/
def Mid (w : World) (F : Nat → Prop) (p : Nat) (bs : List Bool) (j : Nat) (wr : World) : Prop :=
  ∃ cs, Did F p cs w wr ∧ up bs + 1 = j + (rise (8 - j) cs).1 ∧ left bs = (rise (8 - j) cs).2

theorem Mid.start {w : World} {F : Nat → Prop} {p : Nat} {bs : List Bool} (h : Coin w F p bs) : Mid w F p bs 1 w := ⟨bs, h.did (Below.refl _ _), by show (rise 7 bs).1 + 1 = 1 + (rise 7 bs).1; omega, rfl⟩

/-- How a height ends. -/
def High (F : Nat → Prop) (p : Nat) (bs : List Bool) (w : World) (e : Ending) (w' : World) : Prop := e = .returned (.int .i64 ((up bs : Int) + 1)) ∧ Did F p (left bs) w w'

theorem high_mk {F : Nat → Prop} {p j : Nat} {bs : List Bool} {w w' : World} (hj : up bs + 1 = j) (d : Did F p (left bs) w w') : High F p bs w (.returned (.int .i64 (j : Int))) w' := by
  subst hj
  exact ⟨rfl, d⟩

section
variable {w : World} {F : Nat → Prop} {p : Nat} {bs : List Bool}

set_option maxHeartbeats 1600000 in
theorem heightAny (h : Coin w F p bs) :
    Calls Try.prog 16 #[.pointer (some ⟨p, 0, none⟩)] w (High F p bs w) := by
  have HS := Lib.hid (Mid.start h)
  clear h
  go_enter Try.func16, Try.ntmps16
  go_wp2
  go_step3
  go_wp2
  go_step3
  go_wp2
  go_loopw [3] (fun h wr => ∃ j : Nat, 1 ≤ j ∧ j ≤ 8 ∧ h = .int .i64 j ∧ Mid w F p bs j wr) (fun h _ => 8 - (intOf h).toNat)
  case atStart => exact ⟨1, by omega, by omega, rfl, HS.out⟩
  case round =>
    obtain ⟨j, j1, j8, rfl, cs, ⟨F', c, wr', l⟩, hu, hl⟩ := hrel
    clear HS
    by_cases h8 : j = 8
    · subst h8
      have hj : up bs + 1 = 8 := by
        have e : (rise (8 - 8) cs).1 = 0 := by simp [rise]
        omega
      have hd : Did F p (left bs) w wr := by rw [hl]; exact ⟨F', c, wr', l⟩
      have HU := Lib.hid (high_mk (j := 8) hj hd)
      clear hu hl c wr' l hj hd
      go_wp2
      (try rw [Exit.noGoto_ret])
      go_ret
      exact HU.out
    · obtain ⟨n, hn⟩ : ∃ n, 8 - j = n + 1 := ⟨7 - j, by omega⟩
      rw [hn] at hu hl
      have i8 : (j : Int) < 8 := by omega
      cases cs with
      | nil =>
        have C := tossNone c
        have hj : up bs + 1 = j := by simp only [rise] at hu; omega
        have hd : Did F p (left bs) w wr := by rw [hl]; exact ⟨F', c, wr', l⟩
        have HU := Lib.hid (high_mk hj hd)
        clear hu hl c wr' l hn hj hd
        go_wp2_with (go_at_call 14; refine C.mono ?_; rintro e w' ⟨rfl, rfl⟩)
        (try rw [Exit.noGoto_ret])
        go_ret
        exact HU.out
      | cons b cs =>
        have C := tossOk b c
        have HD := Lib.hid (fun (w1 : World) (d : Did F' p cs wr w1) => Did.trans wr' l d)
        cases b with
        | false =>
          have HU := Lib.hid (And.intro hu hl)
          clear hu hl c wr' l hn
          go_wp2_with (go_at_call 14; refine C.mono ?_; rintro e w1 ⟨rfl, d⟩; have HD := Lib.hid (HD.out _ d); clear d)
          (try rw [Exit.noGoto_ret])
          go_ret
          have hu := HU.out.1
          have hl := HU.out.2
          exact high_mk (j := j) (by simp only [rise] at hu; omega) (by rw [hl]; exact HD.out)
        | true =>
          have HU := Lib.hid (And.intro hu (And.intro hl hn))
          clear hu hl c wr' l hn
          go_wp2_with (go_at_call 14; refine C.mono ?_; rintro e w1 ⟨rfl, d⟩; have HD := Lib.hid (HD.out _ d); clear d)
          go_roundw
          case rel =>
            obtain ⟨hu, hl, hn⟩ := HU.out
            refine ⟨j + 1, by omega, by omega, by go_num, cs, HD.out, ?_, ?_⟩
            · rw [show 8 - (j + 1) = n by omega]; simp only [rise] at hu; omega
            · rw [show 8 - (j + 1) = n by omega]; simpa only [rise] using hl
          case measure => simp [intOf]; omega

theorem heightNil (w : World) :
    Calls Try.prog 16 #[.pointer none] w fun e w' => e = .returned (.int .i64 1) ∧ w = w' := by
  go_enter Try.func16, Try.ntmps16
  go_wp2
  go_step3
  go_wp2
  go_step3
  go_wp2
  go_loopw [3] (fun h wr => h = .int .i64 1 ∧ wr = w) (fun h _ => 8 - (intOf h).toNat)
  case atStart => exact ⟨rfl, rfl⟩
  case round =>
    obtain ⟨rfl, rfl⟩ := hrel
    go_wp2_with (go_at_call 14; refine (tossNil _).mono ?_; rintro e w' ⟨rfl, rfl⟩)
    (try rw [Exit.noGoto_ret])
    go_ret
    exact ⟨rfl, rfl⟩

/-- What Copy leaves: a coin in new memory. -/
def Copied (w : World) (bs : List Bool) (e : Ending) (w' : World) : Prop :=
  ∃ q, e = .returned (.pointer (some ⟨q, 0, none⟩)) ∧ Coin w' (New w w') q bs ∧ Below w.heap.size w w'

theorem copyNil (w : World) :
    Calls Try.prog 17 #[.pointer none] w (Copied w []) := by
  go_enter Try.func17, Try.ntmps17
  go_wp2_with (go_at_call 10; refine (newAny _).mono ?_; rintro e w1 ⟨rfl, c, b⟩; have HC := Lib.hid (And.intro c b); clear c b)
  go_ret
  exact ⟨_, rfl, HC.out.1, HC.out.2⟩

/-- What stands behind the append and the store. -/
theorem copied_mk {w1 w2 : World} {q : Nat} {v v' : Value} (c : CoinV w1 q v []) (hq : w.heap.size ≤ q) (hv : ∀ g, v.ownBlock = some g → w.heap.size ≤ g) (hb : Below w.heap.size w w1) (hl : bs.length ≤ 20000)
    (ht : Tail w2 v' (bs.map Value.bool)) (hg : w1.drew.grownBy w2 v.ownBlock) (hn : ∀ g, v'.ownBlock = some g → v.ownBlock = some g ∨ w1.drew.heap.size ≤ g) :
    w2.cell? ⟨q, 0, none⟩ = some v ∧ w2.frozen? ⟨q, 0, none⟩ = false ∧ Copied w bs (.returned (.pointer (some ⟨q, 0, none⟩))) (w2.setCell ⟨q, 0, none⟩ v') := by
  have hs : w1.heap.size ≤ w2.heap.size := hg.size
  have e : w2.heap[q]? = w1.heap[q]? := hg.block q c.lt (fun h => c.ne h.symm)
  have hne : v'.ownBlock ≠ some q := fun h => by
    rcases hn q h with h1 | h1
    · exact c.ne h1
    · have : w1.heap.size ≤ q := h1
      have := c.lt
      omega
  have kb : w2.heap[q]? = some (.cells #[v] 45 (0, 0)) := e.trans c.block
  refine ⟨by simp [World.cell?, kb], by simp [World.frozen?, kb], q, rfl, ⟨v', ⟨?_, ht.other hne _, hne, hl⟩, ⟨hq, ?_⟩, fun g h => ⟨?_, ?_⟩, fun g h => h.2⟩, ?_⟩
  · rw [heap_setCell_same w2 q 0 _ _ _ kb]; rfl
  · have := lt_of_block kb
    simpa [World.setCell] using this
  · rcases hn g h with h1 | h1
    · exact hv g h1
    · exact Nat.le_trans hb.size h1
  · have := ht.lt h
    simpa [World.setCell] using this
  · exact ((hb.drew).grown hg hb.size (fun k h => hv k h)).setCell hq _

theorem tail_src {P : Program} {t e : TypeId} (ht : P.underlying t = some (.slice e)) {xs : List Value} {ao : Option Addr} {n cap : Nat} (hn : n = xs.length) (h : Tail w (.slice ao n cap) xs) (h1 : ∀ u ∈ xs, u.oneCell' = true) : Src P 1 t (.slice ao n cap) n xs w := by
  subst hn
  rcases h with ⟨hv, rfl⟩ | ⟨g, off, cap', hv, hl, hc, hm, hx, hr⟩
  · simp only [Value.slice.injEq] at hv
    obtain ⟨rfl, _, rfl⟩ := hv
    exact Src.ofNil w ht 0
  · simp only [Value.slice.injEq] at hv
    obtain ⟨rfl, _, rfl⟩ := hv
    refine Src.ofSlice w ht _ _ _ _ (by simp) (fun j u hu => ?_) h1
    have hj : j < xs.length := by
      rcases Nat.lt_or_ge j xs.length with h1 | h1
      · exact h1
      · rw [List.getElem?_eq_none h1] at hu; cases hu
    rw [Addr.add_lit]
    exact (hx j hj).trans hu
theorem bools_one (bs : List Bool) : ∀ u ∈ bs.map Value.bool, u.oneCell' = true := by
  intro u hu
  simp only [List.mem_map] at hu
  obtain ⟨z, _, rfl⟩ := hu
  rfl

set_option maxHeartbeats 1600000 in
theorem copyAny (h : Coin w F p bs) :
    Calls Try.prog 17 #[.pointer (some ⟨p, 0, none⟩)] w (Copied w bs) := by
  have hz := h.len
  have HH := Lib.hid h
  obtain ⟨i0, hi, hz0, hz1, hz2⟩ := info_parts infoBool
  clear h
  go_enter Try.func17, Try.ntmps17
  go_wp2_with fail
  refine (newAny w).mono ?_
  rintro e w1 ⟨rfl, c, b⟩
  obtain ⟨v, m, h2, h3, h4⟩ := HH.out.fresh b
  obtain ⟨v0, m0, k2, k3, k4⟩ := c
  obtain ⟨ao, cap, rfl, hc⟩ := m.shape
  obtain ⟨ao0, cap0, rfl, hc0⟩ := m0.shape
  have c1 := m.c0
  have c0 := m0.c0
  have HS := Lib.hid (tail_src (P := Try.prog) Try.underlying29 (n := bs.length) (by simp) m.row.drew (bools_one bs))
  have HT := Lib.hid m0.row.drew
  have HQ := Lib.hid (fun (v' : Value) (w2 : World) ht hg hn => copied_mk (w := w) (w2 := w2) (v' := v') m0 (Nat.le_refl _) (fun g hg => (k3 g hg).1) b hz ht hg hn)
  clear m m0 b k3 HH h2 h3 h4 k2 k4 hc hc0
  go_upto_region 3 with (fail)
  go_region_law (refine step_append_tail _ rfl _ _ 29 rfl 4 i0 _ 1 Try.underlying29 hi hz0 hz1 hz2 rfl _ _ rfl HT.out _ _ _ rfl HS.out (by simp only [maxLen, List.map_nil, List.length_nil]; omega) (by simp only [List.map_nil, List.length_nil]; omega) ?_; intro v' w2 t2 g2 n2; rw [List.map_nil, List.nil_append] at t2; obtain ⟨ao2, cap2, hv2, _⟩ := t2.shape; rw [List.length_map] at hv2; subst hv2; obtain ⟨q1, q2, q3⟩ := HQ.out _ w2 t2 g2 n2; have HQ2 := Lib.hid q3; clear q3 t2 g2 n2)
  all_goals
    go_wp2
    go_ret
    exact HQ2.out

end

end Go.Proofs.Ytkpjgekhcjjlpaa
