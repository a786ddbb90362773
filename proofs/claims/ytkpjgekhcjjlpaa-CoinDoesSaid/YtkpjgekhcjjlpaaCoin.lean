/-
  What a coin of package coin is in the model's world, and what New, Left, Toss, Height and Copy do, at every coin and at nil. Conditions: a coin as Coin says.
-/
import Derived.Test.YtkpjgekhcjjlpaaCoinPlain
namespace Go.Proofs.Ytkpjgekhcjjlpaa
open Go.RowKit

/-- A coin at block p whose list is the value v. -/
structure CoinV (w : World) (p : Nat) (v : Value) (bs : List Bool) : Prop where
  block : w.heap[p]? = some (.cells #[v] 45 (0, 0))
  row : Tail w v (bs.map Value.bool)
  ne : v.ownBlock ≠ some p
  len : bs.length ≤ 20000

/-- A coin whose blocks are all of F. -/
def Coin (w : World) (F : Nat → Prop) (p : Nat) (bs : List Bool) : Prop :=
  ∃ v, CoinV w p v bs ∧ F p ∧ (∀ g, v.ownBlock = some g → F g) ∧ ∀ g, F g → g < w.heap.size

/-- What a call on a coin leaves. -/
def Did (F : Nat → Prop) (p : Nat) (bs : List Bool) (w w' : World) : Prop := ∃ F', Coin w' F' p bs ∧ Wrote F w w' ∧ Later F F' w

section
variable {w w' : World} {F G : Nat → Prop} {p : Nat} {v : Value} {bs : List Bool}

theorem CoinV.lt (h : CoinV w p v bs) : p < w.heap.size := lt_of_block h.block
theorem CoinV.c0 (h : CoinV w p v bs) : w.cell? ⟨p, 0, none⟩ = some v := by simp [World.cell?, h.block]
theorem CoinV.f (h : CoinV w p v bs) (j : Nat) : w.frozen? ⟨p, j, none⟩ = false := by simp [World.frozen?, h.block]
theorem CoinV.keep (h : CoinV w p v bs) (hs : w.heap.size ≤ w'.heap.size) (hp : w'.heap[p]? = w.heap[p]?) (hv : ∀ g, v.ownBlock = some g → w'.heap[g]? = w.heap[g]?) : CoinV w' p v bs :=
  ⟨hp.trans h.block, h.row.keep hs hv, h.ne, h.len⟩
theorem CoinV.shape (h : CoinV w p v bs) : ∃ ao cap, v = .slice ao bs.length cap ∧ bs.length ≤ cap := by
  have := h.row.shape
  simpa using this

/-- What stands behind a store of the list. -/
theorem CoinV.setList (h : CoinV w p v bs) {v' : Value} {bs' : List Bool} (ho : Tail w v' (bs'.map Value.bool)) (hl : bs'.length ≤ 20000) (hne : v'.ownBlock ≠ some p) : CoinV (w.setCell ⟨p, 0, none⟩ v') p v' bs' := by
  refine ⟨?_, ho.other hne _, hne, hl⟩
  rw [heap_setCell_same w p 0 _ _ _ h.block]
  rfl

theorem Coin.len (h : Coin w F p bs) : bs.length ≤ 20000 := by obtain ⟨v, m, _⟩ := h; exact m.len
theorem Coin.foot (h : Coin w F p bs) : ∀ g, F g → g < w.heap.size := by obtain ⟨v, _, _, _, h4⟩ := h; exact h4
theorem Coin.lt (h : Coin w F p bs) : p < w.heap.size := by obtain ⟨v, m, _⟩ := h; exact m.lt
theorem Coin.in (h : Coin w F p bs) : F p := by obtain ⟨v, _, h2, _⟩ := h; exact h2

/-- New memory, and what others write, is none of a coin's. -/
theorem Coin.apart (h : Coin w F p bs) (hw : Wrote G w w') (ha : Apart F G) : Coin w' F p bs := by
  obtain ⟨v, m, h2, h3, h4⟩ := h
  exact ⟨v, m.keep hw.size (hw.block _ m.lt (ha p h2)) (fun g hg => hw.block _ (h4 g (h3 g hg)) (ha g (h3 g hg))), h2, h3, fun g hg => Nat.lt_of_lt_of_le (h4 g hg) hw.size⟩
theorem Coin.fresh (h : Coin w F p bs) (hb : Below w.heap.size w w') : Coin w' F p bs := h.apart (Wrote.of hb (fun _ => False)) (fun _ _ h => h)
theorem Coin.drew (h : Coin w F p bs) : Coin w.drew F p bs := h.fresh (Below.refl _ _).drew
theorem Coin.did (h : Coin w F p bs) (hb : Below w.heap.size w w') : Did F p bs w w' := ⟨F, h.fresh hb, Wrote.of hb F, Later.refl _ _⟩
theorem Did.trans {a b c : World} {bs' : List Bool} (h : Wrote F a b) (hl : Later F G a) (d : Did G p bs' b c) : Did F p bs' a c := by
  obtain ⟨F', h1, h2, h3⟩ := d
  exact ⟨F', h1, h.step hl h2, hl.trans h3 h.size⟩
end

theorem infoBool : (Try.prog.info? 4).map (fun i => (i.zero, i.size, i.bytes)) = some (some (.bool false), 1, 1) := by kernel_rfl

/-- The blocks that are new. -/
def New (w w' : World) : Nat → Prop := fun g => w.heap.size ≤ g ∧ g < w'.heap.size
theorem New.apart {w w' : World} {F : Nat → Prop} (hF : ∀ g, F g → g < w.heap.size) : Apart F (New w w') := fun g h1 h2 => by have := hF g h1; have := h2.1; omega

theorem newCoin (w : World) : Coin (w.alloc (.cells #[.slice none 0 0] 45)) (New w (w.alloc (.cells #[.slice none 0 0] 45))) w.heap.size [] :=
  ⟨.slice none 0 0, ⟨heap_alloc_new w _, Tail.nothing, by simp [Value.ownBlock], by simp⟩, ⟨Nat.le_refl _, by simp⟩, by simp [Value.ownBlock], fun g hg => hg.2⟩

theorem newAny (w : World) :
    Calls Try.prog 10 #[] w fun e w' => e = .returned (.pointer (some ⟨w.heap.size, 0, none⟩)) ∧ Coin w' (New w w') w.heap.size [] ∧ Below w.heap.size w w' := by
  go_enter Try.func10, Try.ntmps10
  go_wp2
  go_ret
  exact ⟨rfl, newCoin w, (Below.refl _ _).alloc (Nat.le_refl _) _⟩

section
variable {w : World} {F : Nat → Prop} {p : Nat} {bs : List Bool}

theorem leftAny (h : Coin w F p bs) :
    Calls Try.prog 18 #[.pointer (some ⟨p, 0, none⟩)] w fun e w' => e = .returned (.int .i64 bs.length) ∧ w = w' := by
  obtain ⟨v, m, _⟩ := h
  have c0 := m.c0
  obtain ⟨ao, cap, rfl, _⟩ := m.shape
  clear m
  go_enter Try.func18, Try.ntmps18
  go_wp2
  go_ret
  exact ⟨rfl, rfl⟩

theorem leftNil (w : World) :
    Calls Try.prog 18 #[.pointer none] w fun e w' => e = .returned (.int .i64 0) ∧ w = w' := by
  go_enter Try.func18, Try.ntmps18
  go_wp2
  go_ret
  exact ⟨rfl, rfl⟩

theorem tossNil (w : World) :
    Calls Try.prog 14 #[.pointer none] w fun e w' => e = .returned (.bool false) ∧ w = w' := by
  go_enter Try.func14, Try.ntmps14
  go_wp2_with (go_at_call 18; refine (leftNil _).mono ?_; rintro e w' ⟨rfl, rfl⟩)
  go_ret
  exact ⟨rfl, rfl⟩

theorem tossNone (h : Coin w F p []) :
    Calls Try.prog 14 #[.pointer (some ⟨p, 0, none⟩)] w fun e w' => e = .returned (.bool false) ∧ w = w' := by
  have L := leftAny h
  clear h
  go_enter Try.func14, Try.ntmps14
  go_wp2_with (go_at_call 18; refine L.mono ?_; rintro e w' ⟨rfl, rfl⟩)
  go_ret
  exact ⟨rfl, rfl⟩

/-- What stands behind the cut. -/
theorem tossed {b : Bool} {g off cap k : Nat} (hk : k = bs.length) (m : CoinV w p (.slice (some ⟨g, off, none⟩) (k + 1) cap) (b :: bs)) (h2 : F p) (h3 : F g) (h4 : ∀ g, F g → g < w.heap.size) (A : Option Addr) (hA : A = if cap = 1 then some ⟨g, off, none⟩ else some ⟨g, off + 1, none⟩) :
    Did F p bs w (w.setCell ⟨p, 0, none⟩ (.slice A k (cap - 1))) := by
  subst hk
  have ht := m.row
  rw [show bs.length + 1 = (bs.map Value.bool).length + 1 by simp, List.map_cons] at ht
  have hr := ht.rest
  rw [List.length_map] at hr
  have hne : (Value.slice A bs.length (cap - 1)).ownBlock = some g := by subst hA; split <;> rfl
  have hm := m.ne
  refine ⟨F, ⟨_, m.setList (v' := .slice A bs.length (cap - 1)) (by rw [hA]; exact hr) (by have := m.len; simp at this; omega) (by rw [hne]; exact hm), h2, ?_, ?_⟩, (Wrote.refl F w).setCell (.inr h2) _, Later.refl _ _⟩
  · intro g' hg'
    rw [hne] at hg'
    injection hg' with hg'
    subst hg'
    exact h3
  · simpa [World.setCell] using h4

set_option maxHeartbeats 1600000 in
theorem tossOk (b : Bool) (h : Coin w F p (b :: bs)) :
    Calls Try.prog 14 #[.pointer (some ⟨p, 0, none⟩)] w fun e w' => e = .returned (.bool b) ∧ Did F p bs w w' := by
  have L := leftAny h
  have hz := h.len
  obtain ⟨v, m, h2, h3, h4⟩ := h
  obtain ⟨k, hk⟩ : ∃ k, k = bs.length := ⟨_, rfl⟩
  have hl : (b :: bs).length = k + 1 := by simp [hk]
  rw [hl] at L hz
  obtain ⟨g, off, cap, hv, hc, cx⟩ := Tail.first (x := .bool b) (xs := bs.map Value.bool) (by simpa using m.row)
  rw [List.length_map, ← hk] at hv hc
  subst hv
  have c0 := m.c0
  have f0 := m.f 0
  by_cases h1 : cap = 1
  · have HQ := Lib.hid (tossed hk m h2 (h3 g rfl) h4 (some ⟨g, off, none⟩) (by rw [if_pos h1]))
    clear m hl h2 h3 h4 hk
    subst h1
    obtain rfl : k = 0 := by omega
    go_enter Try.func14, Try.ntmps14
    go_wp2_with (go_at_call 18; refine L.mono ?_; rintro e w' ⟨rfl, rfl⟩)
    go_ret
    exact ⟨rfl, HQ.out⟩
  · have HQ := Lib.hid (tossed hk m h2 (h3 g rfl) h4 (some ⟨g, off + 1, none⟩) (by rw [if_neg h1]))
    clear m hl h2 h3 h4 hk
    go_enter Try.func14, Try.ntmps14
    go_wp2_with (go_at_call 18; refine L.mono ?_; rintro e w' ⟨rfl, rfl⟩)
    go_ret
    exact ⟨rfl, HQ.out⟩

/-- A toss, whether there are bits or not. -/
theorem tossAny (h : Coin w F p bs) :
    Calls Try.prog 14 #[.pointer (some ⟨p, 0, none⟩)] w fun e w' => e = .returned (.bool (bs.headD false)) ∧ Did F p bs.tail w w' := by
  cases bs with
  | nil => exact (tossNone h).mono fun e w' ⟨he, hw⟩ => ⟨he, by subst hw; exact h.did (Below.refl _ _)⟩
  | cons b bs => exact tossOk b h
end

end Go.Proofs.Ytkpjgekhcjjlpaa
