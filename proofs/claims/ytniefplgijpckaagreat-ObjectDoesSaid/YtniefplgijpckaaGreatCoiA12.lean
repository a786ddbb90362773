/-
  A coin in plain lists: which bits a feed puts, how high a height is, and what is left behind it. Conditions: none; no Go function is looked at here. What a coin of package coin is in the model's world, and what New, Left, Toss, Height and Copy do, at every coin and at nil. Conditions: a coin as Coin says. What Height and Copy of package coin do, at every coin and at nil. Conditions: a coin as Coin says. What Feed of package coin does, at every coin and at nil. Conditions: a coin as Coin says; at most a million bytes, none of which lies in the coin's own memory. Coins in a walk: what is known of one, or of two that know nothing of one another, between the calls. Conditions: none; no Go function is walked here. What Height and Copy of package coin do, at every coin and at nil. Conditions: a coin as Coin says.
-/
import Derived.Test.YtniefplgijpckaaGreatBasA12
import Derived.Test.YtniefplgijpckaaGreatBasB12
import Derived.WalkMore
import Derived.Deep.LoopGhost
import Derived.Laws.BitsAllLaws
namespace Go.Proofs.YtniefplgijpckaaGreat

/-- The bit number m of these bytes, the least of each first. -/
def bitAt (zs : List Int) (m : Nat) : Bool := decide (zs.getD (m / 8) 0 / 2 ^ (m % 8) % 2 = 1)
/-- The first m bits of these bytes. -/
def first (zs : List Int) (m : Nat) : List Bool := (List.range m).map (bitAt zs)
/-- What a coin has when m bits have been fed. -/
def fed (bs : List Bool) (zs : List Int) (m : Nat) : List Bool := (bs ++ first zs m).take 20000
/-- What a coin has when all have been fed. -/
def feedL (bs : List Bool) (zs : List Int) : List Bool := fed bs zs (8 * zs.length)

theorem first_length (zs : List Int) (m : Nat) : (first zs m).length = m := by simp [first]
theorem first_succ (zs : List Int) (m : Nat) : first zs (m + 1) = first zs m ++ [bitAt zs m] := by simp [first, List.range_succ]
theorem first_zero (zs : List Int) : first zs 0 = [] := rfl
theorem fed_length (bs : List Bool) (zs : List Int) (m : Nat) : (fed bs zs m).length = min 20000 (bs.length + m) := by simp [fed, first_length]
theorem fed_le (bs : List Bool) (zs : List Int) (m : Nat) : (fed bs zs m).length ≤ 20000 := by rw [fed_length]; omega
theorem fed_zero (bs : List Bool) (zs : List Int) (h : bs.length ≤ 20000) : fed bs zs 0 = bs := by simp [fed, first_zero, List.take_of_length_le h]
theorem fed_succ (bs : List Bool) (zs : List Int) (m : Nat) (h : (fed bs zs m).length < 20000) : fed bs zs (m + 1) = fed bs zs m ++ [bitAt zs m] := by
  rw [fed_length] at h
  unfold fed
  rw [List.take_of_length_le (by simp [first_length]; omega), List.take_of_length_le (by simp [first_length]; omega), first_succ, List.append_assoc]
theorem first_take (zs : List Int) {m n : Nat} (h : m ≤ n) : (first zs n).take m = first zs m := by
  simp only [first, ← List.map_take, List.take_range, Nat.min_eq_left h]
theorem fed_full (bs : List Bool) (zs : List Int) {m n : Nat} (hm : m ≤ n) (h : ¬ (fed bs zs m).length < 20000) : fed bs zs n = fed bs zs m := by
  rw [fed_length] at h
  unfold fed
  rw [← first_take zs hm, List.take_append, List.take_append, List.take_take, Nat.min_eq_left (by omega)]
theorem feedL_length (bs : List Bool) (zs : List Int) : (feedL bs zs).length = min 20000 (bs.length + 8 * zs.length) := fed_length _ _ _
theorem feedL_le (bs : List Bool) (zs : List Int) : (feedL bs zs).length ≤ 20000 := fed_le _ _ _
theorem feedL_small (bs : List Bool) (zs : List Int) (h : bs.length + 8 * zs.length ≤ 20000) : feedL bs zs = bs ++ first zs (8 * zs.length) := by
  unfold feedL fed
  rw [List.take_of_length_le (by simp [first_length]; omega)]

/-- n tosses at most: how many tell true in a row, and what is left behind the first that does not. -/
def rise : Nat → List Bool → Nat × List Bool
  | 0, bs => (0, bs)
  | _ + 1, [] => (0, [])
  | n + 1, true :: bs => ((rise n bs).1 + 1, (rise n bs).2)
  | _ + 1, false :: bs => (0, bs)
/-- How high a height is, but for the one. -/
def up (bs : List Bool) : Nat := (rise 7 bs).1
/-- What is left behind a height. -/
def left (bs : List Bool) : List Bool := (rise 7 bs).2

theorem rise_le : ∀ (n : Nat) (bs : List Bool), (rise n bs).1 ≤ n
  | 0, _ => Nat.le_refl _
  | _ + 1, [] => Nat.zero_le _
  | n + 1, true :: bs => Nat.succ_le_succ (rise_le n bs)
  | _ + 1, false :: _ => Nat.zero_le _
theorem up_le (bs : List Bool) : up bs ≤ 7 := rise_le 7 bs
theorem rise_left : ∀ (n : Nat) (bs : List Bool), (rise n bs).2.length ≤ bs.length
  | 0, _ => Nat.le_refl _
  | _ + 1, [] => Nat.le_refl _
  | n + 1, true :: bs => Nat.le_succ_of_le (rise_left n bs)
  | _ + 1, false :: _ => Nat.le_succ _
theorem left_le (bs : List Bool) : (left bs).length ≤ bs.length := rise_left 7 bs

/-- How many bits are taken: one more than tell true, or as many, if there are no more, or they are as many as may be. -/
theorem rise_used : ∀ (n : Nat) (bs : List Bool), (bs.length = (rise n bs).2.length + (rise n bs).1 + 1 ∧ (rise n bs).1 < n) ∨ (bs.length = (rise n bs).2.length + (rise n bs).1 ∧ ((rise n bs).1 = n ∨ (rise n bs).2.length = 0))
  | 0, _ => .inr ⟨rfl, .inl rfl⟩
  | _ + 1, [] => .inr ⟨rfl, .inr rfl⟩
  | n + 1, true :: bs => by
    simp only [rise, List.length_cons]
    rcases rise_used n bs with ⟨h1, h2⟩ | ⟨h1, h2⟩
    · exact .inl ⟨by omega, by omega⟩
    · exact .inr ⟨by omega, by omega⟩
  | n + 1, false :: bs => .inl ⟨rfl, Nat.succ_pos n⟩
theorem used (bs : List Bool) : (bs.length = (left bs).length + up bs + 1 ∧ up bs < 7) ∨ (bs.length = (left bs).length + up bs ∧ (up bs = 7 ∨ (left bs).length = 0)) := rise_used 7 bs

end Go.Proofs.YtniefplgijpckaaGreat
namespace Go.Proofs.YtniefplgijpckaaGreat
open Go.RowKit

/-- A coin at block p whose list is the value v. -/
structure CoinV (w : World) (p : Nat) (v : Value) (bs : List Bool) : Prop where
  block : w.heap[p]? = some (.cells #[v] 102 (0, 0))
  row : Tail w v (bs.map Value.bool)
  ne : v.ownBlock ≠ some p
  len : bs.length ≤ 20000

/-- A coin whose blocks are all of F. -/
def Coin (w : World) (F : Nat → Prop) (p : Nat) (bs : List Bool) : Prop :=
  ∃ v, CoinV w p v bs ∧ F p ∧ (∀ g, v.ownBlock = some g → F g) ∧ ∀ g, F g → g < w.heap.size

/-- What a call on a coin leaves. -/
def DidC (F : Nat → Prop) (p : Nat) (bs : List Bool) (w w' : World) : Prop := ∃ F', Coin w' F' p bs ∧ Wrote F w w' ∧ Later F F' w

section
variable {w w' : World} {F G : Nat → Prop} {p : Nat} {v : Value} {bs : List Bool}

theorem CoinV.lt (h : CoinV w p v bs) : p < w.heap.size := lt_of_block h.block
theorem CoinV.c0 (h : CoinV w p v bs) : w.cell? ⟨p, 0, none⟩ = some v := by simp [World.cell?, h.block]
theorem CoinV.f (h : CoinV w p v bs) (j : Nat) : w.frozen? ⟨p, j, none⟩ = false := by simp [World.frozen?, h.block]
theorem CoinV.keep (h : CoinV w p v bs) (hs : w.heap.size ≤ w'.heap.size) (hp : w'.heap[p]? = w.heap[p]?) (hv : ∀ g, v.ownBlock = some g → w'.heap[g]? = w.heap[g]?) : CoinV w' p v bs :=
  ⟨hp.trans h.block, h.row.keep hs hv, h.ne, h.len⟩
theorem CoinV.shape (h : CoinV w p v bs) : ∃ ao cap, v = .slice ao bs.length cap ∧ bs.length ≤ cap := by
  have := h.row.shape
  simpa using this

/-- What stands behind a store of the list. -/
theorem CoinV.setList (h : CoinV w p v bs) {v' : Value} {bs' : List Bool} (ho : Tail w v' (bs'.map Value.bool)) (hl : bs'.length ≤ 20000) (hne : v'.ownBlock ≠ some p) : CoinV (w.setCell ⟨p, 0, none⟩ v') p v' bs' := by
  refine ⟨?_, ho.other hne _, hne, hl⟩
  rw [heap_setCell_same w p 0 _ _ _ h.block]
  rfl

theorem Coin.len (h : Coin w F p bs) : bs.length ≤ 20000 := by obtain ⟨v, m, _⟩ := h; exact m.len
theorem Coin.foot (h : Coin w F p bs) : ∀ g, F g → g < w.heap.size := by obtain ⟨v, _, _, _, h4⟩ := h; exact h4
theorem Coin.lt (h : Coin w F p bs) : p < w.heap.size := by obtain ⟨v, m, _⟩ := h; exact m.lt
theorem Coin.in (h : Coin w F p bs) : F p := by obtain ⟨v, _, h2, _⟩ := h; exact h2

/-- New memory, and what others write, is none of a coin's. -/
theorem Coin.apart (h : Coin w F p bs) (hw : Wrote G w w') (ha : Apart F G) : Coin w' F p bs := by
  obtain ⟨v, m, h2, h3, h4⟩ := h
  exact ⟨v, m.keep hw.size (hw.block _ m.lt (ha p h2)) (fun g hg => hw.block _ (h4 g (h3 g hg)) (ha g (h3 g hg))), h2, h3, fun g hg => Nat.lt_of_lt_of_le (h4 g hg) hw.size⟩
theorem Coin.fresh (h : Coin w F p bs) (hb : Below w.heap.size w w') : Coin w' F p bs := h.apart (Wrote.of hb (fun _ => False)) (fun _ _ h => h)
theorem Coin.drew (h : Coin w F p bs) : Coin w.drew F p bs := h.fresh (Below.refl _ _).drew
theorem Coin.did (h : Coin w F p bs) (hb : Below w.heap.size w w') : DidC F p bs w w' := ⟨F, h.fresh hb, Wrote.of hb F, Later.refl _ _⟩
theorem DidC.trans {a b c : World} {bs' : List Bool} (h : Wrote F a b) (hl : Later F G a) (d : DidC G p bs' b c) : DidC F p bs' a c := by
  obtain ⟨F', h1, h2, h3⟩ := d
  exact ⟨F', h1, h.step hl h2, hl.trans h3 h.size⟩
end

theorem newCoin (w : World) : Coin (w.alloc (.cells #[.slice none 0 0] 102)) (New w (w.alloc (.cells #[.slice none 0 0] 102))) w.heap.size [] :=
  ⟨.slice none 0 0, ⟨heap_alloc_new w _, Tail.nothing, by simp [Value.ownBlock], by simp⟩, ⟨Nat.le_refl _, by simp⟩, by simp [Value.ownBlock], fun g hg => hg.2⟩

theorem newC (w : World) :
    Calls Tryz.prog 30 #[] w fun e w' => e = .returned (.pointer (some ⟨w.heap.size, 0, none⟩)) ∧ Coin w' (New w w') w.heap.size [] ∧ Below w.heap.size w w' := by
  go_enter Tryz.func30, Tryz.ntmps30
  go_wp2
  go_ret
  exact ⟨rfl, newCoin w, (Below.refl _ _).alloc (Nat.le_refl _) _⟩

section
variable {w : World} {F : Nat → Prop} {p : Nat} {bs : List Bool}

theorem leftAny (h : Coin w F p bs) :
    Calls Tryz.prog 161 #[.pointer (some ⟨p, 0, none⟩)] w fun e w' => e = .returned (.int .i64 bs.length) ∧ w = w' := by
  obtain ⟨v, m, _⟩ := h
  have c0 := m.c0
  obtain ⟨ao, cap, rfl, _⟩ := m.shape
  clear m
  go_enter Tryz.func161, Tryz.ntmps161
  go_wp2
  go_ret
  exact ⟨rfl, rfl⟩

theorem leftNil (w : World) :
    Calls Tryz.prog 161 #[.pointer none] w fun e w' => e = .returned (.int .i64 0) ∧ w = w' := by
  go_enter Tryz.func161, Tryz.ntmps161
  go_wp2
  go_ret
  exact ⟨rfl, rfl⟩

theorem tossNil (w : World) :
    Calls Tryz.prog 154 #[.pointer none] w fun e w' => e = .returned (.bool false) ∧ w = w' := by
  go_enter Tryz.func154, Tryz.ntmps154
  go_wp2_with (go_at_call 161; refine (leftNil _).mono ?_; rintro e w' ⟨rfl, rfl⟩)
  go_ret
  exact ⟨rfl, rfl⟩

theorem tossNone (h : Coin w F p []) :
    Calls Tryz.prog 154 #[.pointer (some ⟨p, 0, none⟩)] w fun e w' => e = .returned (.bool false) ∧ w = w' := by
  have L := leftAny h
  clear h
  go_enter Tryz.func154, Tryz.ntmps154
  go_wp2_with (go_at_call 161; refine L.mono ?_; rintro e w' ⟨rfl, rfl⟩)
  go_ret
  exact ⟨rfl, rfl⟩

/-- What stands behind the cut. -/
theorem tossed {b : Bool} {g off cap k : Nat} (hk : k = bs.length) (m : CoinV w p (.slice (some ⟨g, off, none⟩) (k + 1) cap) (b :: bs)) (h2 : F p) (h3 : F g) (h4 : ∀ g, F g → g < w.heap.size) (A : Option Addr) (hA : A = if cap = 1 then some ⟨g, off, none⟩ else some ⟨g, off + 1, none⟩) :
    DidC F p bs w (w.setCell ⟨p, 0, none⟩ (.slice A k (cap - 1))) := by
  subst hk
  have ht := m.row
  rw [show bs.length + 1 = (bs.map Value.bool).length + 1 by simp, List.map_cons] at ht
  have hr := ht.rest
  rw [List.length_map] at hr
  have hne : (Value.slice A bs.length (cap - 1)).ownBlock = some g := by subst hA; split <;> rfl
  have hm := m.ne
  refine ⟨F, ⟨_, m.setList (v' := .slice A bs.length (cap - 1)) (by rw [hA]; exact hr) (by have := m.len; simp at this; omega) (by rw [hne]; exact hm), h2, ?_, ?_⟩, (Wrote.refl F w).setCell (.inr h2) _, Later.refl _ _⟩
  · intro g' hg'
    rw [hne] at hg'
    injection hg' with hg'
    subst hg'
    exact h3
  · simpa [World.setCell] using h4

set_option maxRecDepth 100000 in
set_option maxHeartbeats 1600000 in
theorem tossOk (b : Bool) (h : Coin w F p (b :: bs)) :
    Calls Tryz.prog 154 #[.pointer (some ⟨p, 0, none⟩)] w fun e w' => e = .returned (.bool b) ∧ DidC F p bs w w' := by
  have L := leftAny h
  have hz := h.len
  obtain ⟨v, m, h2, h3, h4⟩ := h
  obtain ⟨k, hk⟩ : ∃ k, k = bs.length := ⟨_, rfl⟩
  have hl : (b :: bs).length = k + 1 := by simp [hk]
  rw [hl] at L hz
  obtain ⟨g, off, cap, hv, hc, cx⟩ := Tail.first (x := .bool b) (xs := bs.map Value.bool) (by simpa using m.row)
  rw [List.length_map, ← hk] at hv hc
  subst hv
  have c0 := m.c0
  have f0 := m.f 0
  by_cases h1 : cap = 1
  · have HQ := Lib.hid (tossed hk m h2 (h3 g rfl) h4 (some ⟨g, off, none⟩) (by rw [if_pos h1]))
    clear m hl h2 h3 h4 hk
    subst h1
    obtain rfl : k = 0 := by omega
    go_enter Tryz.func154, Tryz.ntmps154
    go_wp2_with (go_at_call 161; refine L.mono ?_; rintro e w' ⟨rfl, rfl⟩)
    go_ret
    exact ⟨rfl, HQ.out⟩
  · have HQ := Lib.hid (tossed hk m h2 (h3 g rfl) h4 (some ⟨g, off + 1, none⟩) (by rw [if_neg h1]))
    clear m hl h2 h3 h4 hk
    go_enter Tryz.func154, Tryz.ntmps154
    go_wp2_with (go_at_call 161; refine L.mono ?_; rintro e w' ⟨rfl, rfl⟩)
    go_ret
    exact ⟨rfl, HQ.out⟩

/-- A toss, whether there are bits or not. -/
theorem tossAny (h : Coin w F p bs) :
    Calls Tryz.prog 154 #[.pointer (some ⟨p, 0, none⟩)] w fun e w' => e = .returned (.bool (bs.headD false)) ∧ DidC F p bs.tail w w' := by
  cases bs with
  | nil => exact (tossNone h).mono fun e w' ⟨he, hw⟩ => ⟨he, by subst hw; exact h.did (Below.refl _ _)⟩
  | cons b bs => exact tossOk b h
end

end Go.Proofs.YtniefplgijpckaaGreat
namespace Go.Proofs.YtniefplgijpckaaGreat
open Go.RowKit

/-- In the midst of a height: j is what it is so far. -/
def Mid (w : World) (F : Nat → Prop) (p : Nat) (bs : List Bool) (j : Nat) (wr : World) : Prop :=
  ∃ cs, DidC F p cs w wr ∧ up bs + 1 = j + (rise (8 - j) cs).1 ∧ left bs = (rise (8 - j) cs).2

theorem Mid.start {w : World} {F : Nat → Prop} {p : Nat} {bs : List Bool} (h : Coin w F p bs) : Mid w F p bs 1 w := ⟨bs, h.did (Below.refl _ _), by show (rise 7 bs).1 + 1 = 1 + (rise 7 bs).1; omega, rfl⟩

/-- How a height ends. -/
def High (F : Nat → Prop) (p : Nat) (bs : List Bool) (w : World) (e : Ending) (w' : World) : Prop := e = .returned (.int .i64 ((up bs : Int) + 1)) ∧ DidC F p (left bs) w w'

theorem high_mk {F : Nat → Prop} {p j : Nat} {bs : List Bool} {w w' : World} (hj : up bs + 1 = j) (d : DidC F p (left bs) w w') : High F p bs w (.returned (.int .i64 (j : Int))) w' := by
  subst hj
  exact ⟨rfl, d⟩

section
variable {w : World} {F : Nat → Prop} {p : Nat} {bs : List Bool}

set_option maxRecDepth 100000 in
set_option maxHeartbeats 1600000 in
theorem heightAny (h : Coin w F p bs) :
    Calls Tryz.prog 69 #[.pointer (some ⟨p, 0, none⟩)] w (High F p bs w) := by
  have HS := Lib.hid (Mid.start h)
  clear h
  go_enter Tryz.func69, Tryz.ntmps69
  go_wp2
  go_step3
  go_wp2
  go_step3
  go_wp2
  go_loopw [3] (fun h wr => ∃ j : Nat, 1 ≤ j ∧ j ≤ 8 ∧ h = .int .i64 j ∧ Mid w F p bs j wr) (fun h _ => 8 - (intOf h).toNat)
  case atStart => exact ⟨1, by omega, by omega, rfl, HS.out⟩
  case round =>
    obtain ⟨j, j1, j8, rfl, cs, ⟨F', c, wr', l⟩, hu, hl⟩ := hrel
    clear HS
    by_cases h8 : j = 8
    · subst h8
      have hj : up bs + 1 = 8 := by
        have e : (rise (8 - 8) cs).1 = 0 := by simp [rise]
        omega
      have hd : DidC F p (left bs) w wr := by rw [hl]; exact ⟨F', c, wr', l⟩
      have HU := Lib.hid (high_mk (j := 8) hj hd)
      clear hu hl c wr' l hj hd
      go_wp2
      (try rw [Exit.noGoto_ret])
      go_ret
      exact HU.out
    · obtain ⟨n, hn⟩ : ∃ n, 8 - j = n + 1 := ⟨7 - j, by omega⟩
      rw [hn] at hu hl
      have i8 : (j : Int) < 8 := by omega
      cases cs with
      | nil =>
        have C := tossNone c
        have hj : up bs + 1 = j := by simp only [rise] at hu; omega
        have hd : DidC F p (left bs) w wr := by rw [hl]; exact ⟨F', c, wr', l⟩
        have HU := Lib.hid (high_mk hj hd)
        clear hu hl c wr' l hn hj hd
        go_wp2_with (go_at_call 154; refine C.mono ?_; rintro e w' ⟨rfl, rfl⟩)
        (try rw [Exit.noGoto_ret])
        go_ret
        exact HU.out
      | cons b cs =>
        have C := tossOk b c
        have HD := Lib.hid (fun (w1 : World) (d : DidC F' p cs wr w1) => DidC.trans wr' l d)
        cases b with
        | false =>
          have HU := Lib.hid (And.intro hu hl)
          clear hu hl c wr' l hn
          go_wp2_with (go_at_call 154; refine C.mono ?_; rintro e w1 ⟨rfl, d⟩; have HD := Lib.hid (HD.out _ d); clear d)
          (try rw [Exit.noGoto_ret])
          go_ret
          have hu := HU.out.1
          have hl := HU.out.2
          exact high_mk (j := j) (by simp only [rise] at hu; omega) (by rw [hl]; exact HD.out)
        | true =>
          have HU := Lib.hid (And.intro hu (And.intro hl hn))
          clear hu hl c wr' l hn
          go_wp2_with (go_at_call 154; refine C.mono ?_; rintro e w1 ⟨rfl, d⟩; have HD := Lib.hid (HD.out _ d); clear d)
          go_roundw
          case rel =>
            obtain ⟨hu, hl, hn⟩ := HU.out
            refine ⟨j + 1, by omega, by omega, by go_num, cs, HD.out, ?_, ?_⟩
            · rw [show 8 - (j + 1) = n by omega]; simp only [rise] at hu; omega
            · rw [show 8 - (j + 1) = n by omega]; simpa only [rise] using hl
          case measure => simp [intOf]; omega

theorem heightNil (w : World) :
    Calls Tryz.prog 69 #[.pointer none] w fun e w' => e = .returned (.int .i64 1) ∧ w = w' := by
  go_enter Tryz.func69, Tryz.ntmps69
  go_wp2
  go_step3
  go_wp2
  go_step3
  go_wp2
  go_loopw [3] (fun h wr => h = .int .i64 1 ∧ wr = w) (fun h _ => 8 - (intOf h).toNat)
  case atStart => exact ⟨rfl, rfl⟩
  case round =>
    obtain ⟨rfl, rfl⟩ := hrel
    go_wp2_with (go_at_call 154; refine (tossNil _).mono ?_; rintro e w' ⟨rfl, rfl⟩)
    (try rw [Exit.noGoto_ret])
    go_ret
    exact ⟨rfl, rfl⟩

theorem tail_src {P : Program} {t e : TypeId} (ht : P.underlying t = some (.slice e)) {xs : List Value} {ao : Option Addr} {n cap : Nat} (hn : n = xs.length) (h : Tail w (.slice ao n cap) xs) (h1 : ∀ u ∈ xs, u.oneCell' = true) : Src P 1 t (.slice ao n cap) n xs w := by
  subst hn
  rcases h with ⟨hv, rfl⟩ | ⟨g, off, cap', hv, hl, hc, hm, hx, hr⟩
  · simp only [Value.slice.injEq] at hv
    obtain ⟨rfl, _, rfl⟩ := hv
    exact Src.ofNil w ht 0
  · simp only [Value.slice.injEq] at hv
    obtain ⟨rfl, _, rfl⟩ := hv
    refine Src.ofSlice w ht _ _ _ _ (by simp) (fun j u hu => ?_) h1
    have hj : j < xs.length := by
      rcases Nat.lt_or_ge j xs.length with h1 | h1
      · exact h1
      · rw [List.getElem?_eq_none h1] at hu; cases hu
    rw [Addr.add_lit]
    exact (hx j hj).trans hu
theorem bools_one (bs : List Bool) : ∀ u ∈ bs.map Value.bool, u.oneCell' = true := by
  intro u hu
  simp only [List.mem_map] at hu
  obtain ⟨z, _, rfl⟩ := hu
  rfl

end

end Go.Proofs.YtniefplgijpckaaGreat
namespace Go.Proofs.YtniefplgijpckaaGreat
open Go.RowKit

theorem feedNil (v : Value) (w : World) :
    Calls Tryz.prog 33 #[.pointer none, v] w fun e w' => e = .returned (.tuple #[]) ∧ w = w' := by
  go_enter Tryz.func33, Tryz.ntmps33
  go_wp2
  refine bodyPost_ret (results_none rfl _ _ _) rfl ?_
  exact ⟨rfl, rfl⟩

theorem low1 (x : Int) (h0 : 0 ≤ x) (h1 : x < 256) : (bits .and .u8 x 1 == 1) = decide (x % 2 = 1) := by
  rw [u8_and x 1 h0 h1 (by omega) (by omega), show (1 : Int).toNat = 1 from rfl, Nat.and_one_is_mod]
  have e : ((x.toNat % 2 : Nat) : Int) = x % 2 := by omega
  rw [e]
  by_cases h : x % 2 = 1 <;> simp [h]

theorem part_in (z : Int) (q : Nat) (z0 : 0 ≤ z) (z1 : z ≤ 255) : 0 ≤ z / 2 ^ q ∧ z / 2 ^ q < 256 := by
  have h2 : (0 : Int) < 2 ^ q := Int.pow_pos (by omega)
  exact ⟨Int.ediv_nonneg z0 (Int.le_of_lt h2), by have := Int.ediv_le_self (2 ^ q) z0; omega⟩

/-- The bit of a byte, as the program has it. -/
theorem bit_is (zs : List Int) (k q : Nat) (hq : q < 8) (z : Int) (hz : z = zs.getD k 0) (z0 : 0 ≤ z) (z1 : z ≤ 255) : (bits .and .u8 (z / 2 ^ q) 1 == 1) = bitAt zs (8 * k + q) := by
  obtain ⟨h0, h1⟩ := part_in z q z0 z1
  rw [low1 _ h0 h1, bitAt, show (8 * k + q) / 8 = k by omega, show (8 * k + q) % 8 = q by omega, ← hz]

section
variable {w : World} {F : Nat → Prop} {p : Nat} {bs : List Bool}

/-- What stands behind the append and the store of one bit. -/
theorem fed_mk {v v' : Value} {w1 : World} {o : Obj} {b : Bool} (m : CoinV w p v bs) (h2 : F p) (h3 : ∀ g, v.ownBlock = some g → F g) (h4 : ∀ g, F g → g < w.heap.size) (hf : bs.length < 20000)
    (ht : Tail w1 v' (bs.map Value.bool ++ [.bool b])) (hg : (w.drew.alloc o).grownBy w1 v.ownBlock) (hl : ∀ g, v'.ownBlock = some g → v.ownBlock = some g ∨ (w.drew.alloc o).heap.size ≤ g) :
    w1.cell? ⟨p, 0, none⟩ = some v ∧ w1.frozen? ⟨p, 0, none⟩ = false ∧ DidC F p (bs ++ [b]) w (w1.setCell ⟨p, 0, none⟩ v') := by
  have hp := m.lt
  have ep : w1.heap[p]? = w.heap[p]? := (hg.block p (by simp; omega) (fun e => m.ne e.symm)).trans (Below.heap_alloc w.drew _ _ hp)
  have hne : v'.ownBlock ≠ some p := fun e => by
    rcases hl p e with e' | e'
    · exact m.ne e'
    · simp at e'; omega
  have kb : w1.heap[p]? = some (.cells #[v] 102 (0, 0)) := ep.trans m.block
  refine ⟨by simp [World.cell?, kb], by simp [World.frozen?, kb], fun g => F g ∨ v'.ownBlock = some g, ⟨v', ⟨?_, ?_, hne, by simp; omega⟩, .inl h2, fun g hg' => .inr hg', ?_⟩, ?_, ?_⟩
  · rw [heap_setCell_same w1 p 0 _ _ _ kb]; rfl
  · have := ht.other (p := ⟨p, 0, none⟩) hne v'
    simpa using this
  · intro g hg'
    have hs : w.heap.size ≤ w1.heap.size := Nat.le_trans (by simp) hg.size
    rcases hg' with h | h
    · have := h4 g h
      simp [World.setCell]; omega
    · simpa [World.setCell] using ht.lt h
  · exact ((((Wrote.refl F w).drew).alloc o).grown hg (fun g e => .inl (h3 g e))).setCell (.inr h2) _
  · intro g hg'
    rcases hg' with h | h
    · exact .inl h
    · rcases hl g h with e | e
      · exact .inl (h3 g e)
      · exact .inr (by simp at e; omega)

set_option maxRecDepth 100000 in
set_option maxHeartbeats 1600000 in
theorem feedAny (h : Coin w F p bs) {ao : Option Addr} {n cap : Nat} {zs : List Int} (hr : Reads .u8 w ao n zs) (ho : 0 < n → Off F ao) (hz : ∀ z ∈ zs, 0 ≤ z ∧ z ≤ 255) (hn : n ≤ 1000000) :
    Calls Tryz.prog 33 #[.pointer (some ⟨p, 0, none⟩), .slice ao n cap] w fun e w' => e = .returned (.tuple #[]) ∧ DidC F p (feedL bs zs) w w' := by
  have HS := Lib.hid (show DidC F p (fed bs zs 0) w w by rw [fed_zero _ _ h.len]; exact h.did (Below.refl _ _))
  have HR := Lib.hid (And.intro hr (And.intro ho hz))
  have HL := Lib.hid hr.1
  obtain ⟨i0, hi, hz0, hz1, hz2⟩ := info_parts infoBool
  clear h hr ho hz
  go_enter Tryz.func33, Tryz.ntmps33
  go_wp2
  go_loopw [11] (fun i wr => ∃ k : Nat, k ≤ n ∧ i = .int .i64 k ∧ DidC F p (fed bs zs (8 * k)) w wr) (fun i _ => n - (intOf i).toNat)
  case atStart => exact ⟨0, Nat.zero_le _, rfl, HS.out⟩
  case round =>
    obtain ⟨k, hk, rfl, hd⟩ := hrel
    have HD := Lib.hid hd
    clear hd HS
    by_cases hlt : k < n
    · obtain ⟨b1, o1, rfl, l1, h1⟩ := (HR.out.1.off (HR.out.2.1 (by omega)) (HD.out.choose_spec.2.1)).2 (by omega)
      have c1 := h1 k hlt
      have hzk : 0 ≤ zs.getD k 0 ∧ zs.getD k 0 ≤ 255 := by
        have : k < zs.length := by rw [HL.out]; exact hlt
        simpa [List.getD, this] using HR.out.2.2 (zs[k]) (List.getElem_mem this)
      obtain ⟨z, hze⟩ : ∃ z, z = zs.getD k 0 := ⟨_, rfl⟩
      rw [← hze] at c1 hzk
      obtain ⟨z0, z1⟩ := hzk
      have HZ := Lib.hid hze
      clear h1 hze
      have i1 : (k : Int) < n := by omega
      go_wp2
      go_loopw [15] (fun i wr => ∃ q : Nat, q ≤ 8 ∧ i = .int .i64 q ∧ DidC F p (fed bs zs (8 * k + q)) w wr) (fun i _ => 8 - (intOf i).toNat)
      case atStart => exact ⟨0, Nat.zero_le _, rfl, HD.out⟩
      case round =>
        obtain ⟨q, hq, rfl, hd⟩ := hrel
        by_cases h8 : q < 8
        · obtain ⟨cs, hcs⟩ : ∃ cs, cs = fed bs zs (8 * k + q) := ⟨_, rfl⟩
          rw [← hcs] at hd
          have HD := Lib.hid hd
          have HC := Lib.hid hcs
          obtain ⟨F', c, wr', l⟩ := hd
          obtain ⟨v, m, h2, h3, h4⟩ := c
          obtain ⟨ao', cap', rfl, hc⟩ := m.shape
          have c0 := m.c0
          have hpl := m.lt
          have HT := Lib.hid m.row.drew
          have HX := Lib.hid (fun (xs : List Bool) (w1 : World) (d : DidC F' p xs wr w1) => DidC.trans wr' l d)
          have HE := Lib.hid (fun (hf : cs.length < 20000) (o : Obj) (b : Bool) (v' : Value) (w1 : World) ht hg hl => (fed_mk (o := o) (b := b) (v' := v') (w1 := w1) m h2 h3 h4 hf ht hg hl))
          have i8 : (q : Int) < 8 := by omega
          clear hcs m h2 h3 h4 wr' l
          by_cases hfull : cs.length < 20000
          · have hf' : (cs.length : Int) < 20000 := by omega
            have hb : decide ((20000 : Int) ≤ (cs.length : Int)) = false := by simpa using hf'
            have HF := Lib.hid hf'
            clear hfull hf'
            go_upto_region 8 with (fail)
            have hlen := Lib.hid (show cs.length + 1 ≤ maxLen by simp only [maxLen]; have := HF.out; omega)
            have hlen2 := Lib.hid (show cs.length + 1 ≤ 140737488355328 by have := HF.out; omega)
            go_region_law (refine step_append_tail _ rfl _ _ 56 rfl 4 i0 _ 1 Tryz.underlying56 hi hz0 hz1 hz2 rfl _ _ rfl (HT.out.alloc _) _ 1 [.bool (bits .and .u8 (z / 2 ^ q) 1 == 1)] rfl (Src.ofSlice _ Tryz.underlying56 ⟨wr.heap.size, 0, none⟩ 1 1 _ rfl (by intro j u hu; cases j <;> simp at hu; subst hu; go_simp) (by intro u hu; simp at hu; subst hu; rfl)) (by rw [List.length_map]; exact hlen.out) (by rw [List.length_map, Nat.mul_one]; exact hlen2.out) ?_; intro v' w4 t4 g4 l4; obtain ⟨q1, q2, q3⟩ := HE.out (by have := HF.out; omega) _ _ v' w4 t4 g4 l4; obtain ⟨ao4, cap4, hv4, _⟩ := t4.shape; rw [List.length_append, List.length_map, List.length_singleton] at hv4; subst hv4; have HG := Lib.hid (HX.out _ _ q3); clear q3 t4 g4 l4)
            all_goals
              go_wp2
              go_roundw
              case rel =>
                have e := HC.out
                have e2 := HZ.out
                have hd2 := HG.out
                have e3 : cs ++ [(bits .and .u8 (z / 2 ^ q) 1 == 1)] = fed bs zs (8 * k + (q + 1)) := by rw [bit_is zs k q (by omega) z e2 z0 z1, ← Nat.add_assoc, fed_succ _ _ _ (by rw [← e]; have := HF.out; omega), e]
                rw [e3] at hd2
                exact ⟨q + 1, by omega, by go_num, hd2⟩
              case measure => simp [intOf]; omega
          · have hf' : (20000 : Int) ≤ (cs.length : Int) := by omega
            clear hfull
            go_wp2
            refine bodyPost_ret (results_none rfl _ _ _) rfl ?_
            have e := HC.out
            exact ⟨rfl, by unfold feedL; rw [HL.out, fed_full bs zs (m := 8 * k + q) (by omega) (by rw [← e]; omega), ← e]; exact HD.out⟩
        · go_wp2
          go_roundw
          case rel => exact ⟨k + 1, by omega, by go_num, by rw [show 8 * (k + 1) = 8 * k + q by omega]; exact hd⟩
          case measure => simp [intOf]; omega
    · obtain rfl : k = n := by omega
      go_wp2
      first | go_end0 | refine bodyPost_ret (results_none rfl _ _ _) rfl ?_
      exact ⟨rfl, by unfold feedL; rw [HL.out]; exact HD.out⟩
end

end Go.Proofs.YtniefplgijpckaaGreat
namespace Go.Proofs.YtniefplgijpckaaGreat
open Go.RowKit

/-- A coin whose blocks are all new, and nothing old is touched. -/
def AtC (w : World) (F : Nat → Prop) (p : Nat) (bs : List Bool) (wr : World) : Prop := Coin wr F p bs ∧ Below w.heap.size w wr ∧ ∀ g, F g → w.heap.size ≤ g

section
variable {w a b : World} {F G : Nat → Prop} {p q : Nat} {bs bs' cs : List Bool}
theorem AtC.new (h : Coin b (New w b) p bs) (hb : Below w.heap.size w b) : AtC w (New w b) p bs b := ⟨h, hb, fun _ hg => hg.1⟩
theorem AtC.fresh (h : AtC w F p bs a) (hb : Below a.heap.size a b) : AtC w F p bs b := ⟨h.1.fresh hb, h.2.1.trans (hb.mono h.2.1.size), h.2.2⟩
theorem AtC.drew (h : AtC w F p bs a) : AtC w F p bs a.drew := h.fresh (Below.refl _ _).drew
theorem AtC.next (h : AtC w F p bs a) (d : DidC F p bs' a b) : ∃ F', AtC w F' p bs' b ∧ Wrote F a b ∧ Later F F' a := by
  obtain ⟨F', s, wr, l⟩ := d
  refine ⟨F', ⟨s, h.2.1.trans (wr.below h.2.1.size h.2.2), fun g hg => ?_⟩, wr, l⟩
  rcases l g hg with h1 | h1
  · exact h.2.2 g h1
  · exact Nat.le_trans h.2.1.size h1
theorem AtC.lt (h : AtC w F p bs a) : ∀ g, F g → g < a.heap.size := h.1.foot
theorem AtC.copied (h : AtC w F p bs a) (s : Coin b (New a b) q cs) (hb : Below a.heap.size a b) : AtC w (New a b) q cs b ∧ Apart F (New a b) :=
  ⟨⟨s, h.2.1.trans (hb.mono h.2.1.size), fun _ hg => Nat.le_trans h.2.1.size hg.1⟩, New.apart h.lt⟩
/-- Old memory is none of its own. -/
theorem AtC.old (h : AtC w F p bs a) {ao : Option Addr} {n : Nat} (ho : 0 < n → ∀ x, ao = some x → x.block < w.heap.size) : 0 < n → Off F ao := fun hp x e hf => by
  have := ho hp x e
  have := h.2.2 _ hf
  omega
/-- New memory is none of its own. -/
theorem AtC.young (h : AtC w F p bs a) {ao : Option Addr} {n : Nat} (ho : 0 < n → ∀ x, ao = some x → a.heap.size ≤ x.block) : 0 < n → Off F ao := fun hp x e hf => by
  have := ho hp x e
  have := h.lt _ hf
  omega

/-- TwoC coins that know nothing of one another. -/
structure TwoC (w : World) (F G : Nat → Prop) (p q : Nat) (bs cs : List Bool) (a : World) : Prop where
  c : AtC w F p bs a
  d : AtC w G q cs a
  ap : Apart F G

theorem TwoC.fresh (h : TwoC w F G p q bs cs a) (hb : Below a.heap.size a b) : TwoC w F G p q bs cs b := ⟨h.c.fresh hb, h.d.fresh hb, h.ap⟩
theorem TwoC.nextC (h : TwoC w F G p q bs cs a) (d : DidC F p bs' a b) : ∃ F', TwoC w F' G p q bs' cs b := by
  obtain ⟨F', k, wr, l⟩ := h.c.next d
  exact ⟨F', k, ⟨h.d.1.apart wr h.ap.symm, k.2.1, h.d.2.2⟩, l.apart h.ap h.d.lt⟩
theorem TwoC.nextD (h : TwoC w F G p q bs cs a) (d : DidC G q bs' a b) : ∃ G', TwoC w F G' p q bs bs' b := by
  obtain ⟨G', k, wr, l⟩ := h.d.next d
  exact ⟨G', ⟨h.c.1.apart wr h.ap, k.2.1, h.c.2.2⟩, k, (l.apart h.ap.symm h.c.lt).symm⟩
end

end Go.Proofs.YtniefplgijpckaaGreat
namespace Go.Proofs.YtniefplgijpckaaGreat
open Go.RowKit

section
variable {w : World} {F : Nat → Prop} {p : Nat} {bs : List Bool}

/-- What Copy leaves: a coin in new memory. -/
def CopiedC (w : World) (bs : List Bool) (e : Ending) (w' : World) : Prop :=
  ∃ q, e = .returned (.pointer (some ⟨q, 0, none⟩)) ∧ Coin w' (New w w') q bs ∧ Below w.heap.size w w'

theorem copyNilC (w : World) :
    Calls Tryz.prog 34 #[.pointer none] w (CopiedC w []) := by
  go_enter Tryz.func34, Tryz.ntmps34
  go_wp2_with (go_at_call 30; refine (newC _).mono ?_; rintro e w1 ⟨rfl, c, b⟩; have HC := Lib.hid (And.intro c b); clear c b)
  go_ret
  exact ⟨_, rfl, HC.out.1, HC.out.2⟩

/-- What stands behind the append and the store. -/
theorem copied_mk {w1 w2 : World} {q : Nat} {v v' : Value} (c : CoinV w1 q v []) (hq : w.heap.size ≤ q) (hv : ∀ g, v.ownBlock = some g → w.heap.size ≤ g) (hb : Below w.heap.size w w1) (hl : bs.length ≤ 20000)
    (ht : Tail w2 v' (bs.map Value.bool)) (hg : w1.drew.grownBy w2 v.ownBlock) (hn : ∀ g, v'.ownBlock = some g → v.ownBlock = some g ∨ w1.drew.heap.size ≤ g) :
    w2.cell? ⟨q, 0, none⟩ = some v ∧ w2.frozen? ⟨q, 0, none⟩ = false ∧ CopiedC w bs (.returned (.pointer (some ⟨q, 0, none⟩))) (w2.setCell ⟨q, 0, none⟩ v') := by
  have hs : w1.heap.size ≤ w2.heap.size := hg.size
  have e : w2.heap[q]? = w1.heap[q]? := hg.block q c.lt (fun h => c.ne h.symm)
  have hne : v'.ownBlock ≠ some q := fun h => by
    rcases hn q h with h1 | h1
    · exact c.ne h1
    · have : w1.heap.size ≤ q := h1
      have := c.lt
      omega
  have kb : w2.heap[q]? = some (.cells #[v] 102 (0, 0)) := e.trans c.block
  refine ⟨by simp [World.cell?, kb], by simp [World.frozen?, kb], q, rfl, ⟨v', ⟨?_, ht.other hne _, hne, hl⟩, ⟨hq, ?_⟩, fun g h => ⟨?_, ?_⟩, fun g h => h.2⟩, ?_⟩
  · rw [heap_setCell_same w2 q 0 _ _ _ kb]; rfl
  · have := lt_of_block kb
    simpa [World.setCell] using this
  · rcases hn g h with h1 | h1
    · exact hv g h1
    · exact Nat.le_trans hb.size h1
  · have := ht.lt h
    simpa [World.setCell] using this
  · exact ((hb.drew).grown hg hb.size (fun k h => hv k h)).setCell hq _

set_option maxRecDepth 100000 in
set_option maxHeartbeats 1600000 in
theorem copyAnyC (h : Coin w F p bs) :
    Calls Tryz.prog 34 #[.pointer (some ⟨p, 0, none⟩)] w (CopiedC w bs) := by
  have hz := h.len
  have HH := Lib.hid h
  obtain ⟨i0, hi, hz0, hz1, hz2⟩ := info_parts infoBool
  clear h
  go_enter Tryz.func34, Tryz.ntmps34
  go_wp2_with fail
  refine (newC w).mono ?_
  rintro e w1 ⟨rfl, c, b⟩
  obtain ⟨v, m, h2, h3, h4⟩ := HH.out.fresh b
  obtain ⟨v0, m0, k2, k3, k4⟩ := c
  obtain ⟨ao, cap, rfl, hc⟩ := m.shape
  obtain ⟨ao0, cap0, rfl, hc0⟩ := m0.shape
  have c1 := m.c0
  have c0 := m0.c0
  have HS := Lib.hid (tail_src (P := Tryz.prog) Tryz.underlying56 (n := bs.length) (by simp) m.row.drew (bools_one bs))
  have HT := Lib.hid m0.row.drew
  have HQ := Lib.hid (fun (v' : Value) (w2 : World) ht hg hn => copied_mk (w := w) (w2 := w2) (v' := v') m0 (Nat.le_refl _) (fun g hg => (k3 g hg).1) b hz ht hg hn)
  clear m m0 b k3 HH h2 h3 h4 k2 k4 hc hc0
  go_upto_region 3 with (fail)
  go_region_law (refine step_append_tail _ rfl _ _ 56 rfl 4 i0 _ 1 Tryz.underlying56 hi hz0 hz1 hz2 rfl _ _ rfl HT.out _ _ _ rfl HS.out (by simp only [maxLen, List.map_nil, List.length_nil]; omega) (by simp only [List.map_nil, List.length_nil]; omega) ?_; intro v' w2 t2 g2 n2; rw [List.map_nil, List.nil_append] at t2; obtain ⟨ao2, cap2, hv2, _⟩ := t2.shape; rw [List.length_map] at hv2; subst hv2; obtain ⟨q1, q2, q3⟩ := HQ.out _ w2 t2 g2 n2; have HQ2 := Lib.hid q3; clear q3 t2 g2 n2)
  all_goals
    go_wp2
    go_ret
    exact HQ2.out

end

end Go.Proofs.YtniefplgijpckaaGreat
