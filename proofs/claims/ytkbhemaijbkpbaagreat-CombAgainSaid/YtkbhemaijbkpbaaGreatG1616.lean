/-
  What Copy of package skip makes: a list of its own with the same items, at every list and at nil. Conditions: a list as Skip says. What a coin of package coin is in the model's world, and what New, Left, Toss, Height and Copy do, at every coin and at nil. Conditions: a coin as Coin says. What Height and Copy of package coin do, at every coin and at nil. Conditions: a coin as Coin says. What Feed of package coin does, at every coin and at nil. Conditions: a coin as Coin says; at most a million bytes, none of which lies in the coin's own memory. Coins in a walk: what is known of one, or of two that know nothing of one another, between the calls. Conditions: none; no Go function is walked here. What Height and Copy of package coin do, at every coin and at nil. Conditions: a coin as Coin says. What the functions that make a holder make. Conditions: none. A skip list or none; what room, added and taken of package sorted do. Conditions: a list as Skip says, or none.
-/
import Derived.Test.YtkbhemaijbkpbaaGreatG0816
import Derived.Test.YtkbhemaijbkpbaaGreatG0316
import Derived.Test.YtkbhemaijbkpbaaGreatG1516
import Derived.Test.YtkbhemaijbkpbaaGreatG0916
import Derived.Test.YtkbhemaijbkpbaaGreatG1216
import Derived.WalkMore
import Derived.Deep.LoopGhost
import Derived.Laws.BitsAllLaws
namespace Go.Proofs.YtkbhemaijbkpbaaGreat
open Go.RowKit Go.Shelf

attribute [local go_sem] Oper.semAt_some

theorem Bod.cells {W : World} {p : Nat} {many most : Int} {ns : List Nd} (h : Bod W p many most ns) {g : Nat} (hg : InF p ns g) : ∃ o : Obj, W.heap[g]? = some o ∧ o.isCells = true := by
  rcases List.mem_cons.1 hg with e | e
  · obtain ⟨cs', hc, _⟩ := h.hd
    rw [e]; exact ⟨_, hc, rfl⟩
  · obtain ⟨n, hn, rfl⟩ := List.mem_map.1 e
    obtain ⟨cs', hc, _⟩ := h.tow n hn
    exact ⟨_, hc, rfl⟩

theorem Bod.keeps {W W' : World} {p : Nat} {many most : Int} {ns : List Nd} (h : Bod W p many most ns) (hw : Wrote (InF p ns) W W') : KeepsOthers W W' :=
  ⟨hw.size, fun k o hk ho => (hw.block k (Array.getElem?_eq_some_iff.1 hk).1 fun e => by
    obtain ⟨o', h1, h2⟩ := h.cells e
    rw [hk] at h1; cases h1; rw [ho] at h2; cases h2).trans hk⟩

/-- What holds between two rounds of Copy: the first k items are there, in new memory. -/
def CopyInv (w : World) (q : Nat) (most : Int) (B3 B4 bh p : Nat) (ns : List Nd) (k : Nat) (W : World) : Prop :=
  ∃ ms : List Nd, Bod W q k most ms ∧ itsOf ms = (itsOf ns).take k ∧ (∀ g, InF q ms g → w.heap.size ≤ g) ∧ PBox W B4 (pos q ms) ∧
    Boxed W B3 140 (.pointer (some ⟨q, 0, none⟩)) ∧ Boxed W bh 163 (.pointer (some ⟨p, 0, none⟩)) ∧ Boxed W (bh + 1) 3 (.int .i64 0) ∧ Below w.heap.size w W

theorem CopyInv.own {w : World} {q : Nat} {most : Int} {B3 B4 bh p : Nat} {ns : List Nd} {n : Nat} (hn : w.heap.size ≤ n) : OwnFrom n (CopyInv w q most B3 B4 bh p ns) := fun k W W' row h hg hr => by
  obtain ⟨ms, h1, h2, h3, h4, h5, h6, h7, h8⟩ := h
  have hne : ∀ (b : Nat) (o : Obj), W.heap[b]? = some o → o.isCells = true → W'.heap[b]? = W.heap[b]? := fun b o ho hc => hg.block b (Array.getElem?_eq_some_iff.1 ho).1 fun e => by
    obtain ⟨_, o', ho', hc'⟩ := hr b e.symm
    rw [ho] at ho'; cases ho'; rw [hc] at hc'; cases hc'
  refine ⟨ms, h1.keep fun g hg => ?_, h2, h3, (hne _ _ h4 rfl).trans h4, (hne _ _ h5 rfl).trans h5, (hne _ _ h6 rfl).trans h6, (hne _ _ h7 rfl).trans h7, ownFrom_below (Nat.le_refl _) hn () W W' row h8 hg hr⟩
  obtain ⟨o, ho, hc⟩ := h1.cells hg
  exact hne g o ho hc

section
variable {w : World} {F : Nat → Prop} {p : Nat} {most : Int} {l : List It}

end

end Go.Proofs.YtkbhemaijbkpbaaGreat
namespace Go.Proofs.YtkbhemaijbkpbaaGreat
open Go.RowKit

/-- A coin at block p whose list is the value v. -/
structure CoinV (w : World) (p : Nat) (v : Value) (bs : List Bool) : Prop where
  block : w.heap[p]? = some (.cells #[v] 145 (0, 0))
  row : Tail w v (bs.map Value.bool)
  ne : v.ownBlock ≠ some p
  len : bs.length ≤ 20000

/-- A coin whose blocks are all of F. -/
def Coin (w : World) (F : Nat → Prop) (p : Nat) (bs : List Bool) : Prop :=
  ∃ v, CoinV w p v bs ∧ F p ∧ (∀ g, v.ownBlock = some g → F g) ∧ ∀ g, F g → g < w.heap.size

/-- What a call on a coin leaves. -/
def DidC (F : Nat → Prop) (p : Nat) (bs : List Bool) (w w' : World) : Prop := ∃ F', Coin w' F' p bs ∧ Wrote F w w' ∧ Later F F' w

section
variable {w w' : World} {F G : Nat → Prop} {p : Nat} {v : Value} {bs : List Bool}

theorem CoinV.lt (h : CoinV w p v bs) : p < w.heap.size := lt_of_block h.block
theorem CoinV.c0 (h : CoinV w p v bs) : w.cell? ⟨p, 0, none⟩ = some v := by simp [World.cell?, h.block]
theorem CoinV.f (h : CoinV w p v bs) (j : Nat) : w.frozen? ⟨p, j, none⟩ = false := by simp [World.frozen?, h.block]
theorem CoinV.keep (h : CoinV w p v bs) (hs : w.heap.size ≤ w'.heap.size) (hp : w'.heap[p]? = w.heap[p]?) (hv : ∀ g, v.ownBlock = some g → w'.heap[g]? = w.heap[g]?) : CoinV w' p v bs :=
  ⟨hp.trans h.block, h.row.keep hs hv, h.ne, h.len⟩
theorem CoinV.shape (h : CoinV w p v bs) : ∃ ao cap, v = .slice ao bs.length cap ∧ bs.length ≤ cap := by
  have := h.row.shape
  simpa using this

/-- What stands behind a store of the list. -/
theorem CoinV.setList (h : CoinV w p v bs) {v' : Value} {bs' : List Bool} (ho : Tail w v' (bs'.map Value.bool)) (hl : bs'.length ≤ 20000) (hne : v'.ownBlock ≠ some p) : CoinV (w.setCell ⟨p, 0, none⟩ v') p v' bs' := by
  refine ⟨?_, ho.other hne _, hne, hl⟩
  rw [heap_setCell_same w p 0 _ _ _ h.block]
  rfl

theorem Coin.len (h : Coin w F p bs) : bs.length ≤ 20000 := by obtain ⟨v, m, _⟩ := h; exact m.len
theorem Coin.foot (h : Coin w F p bs) : ∀ g, F g → g < w.heap.size := by obtain ⟨v, _, _, _, h4⟩ := h; exact h4
theorem Coin.lt (h : Coin w F p bs) : p < w.heap.size := by obtain ⟨v, m, _⟩ := h; exact m.lt
theorem Coin.in (h : Coin w F p bs) : F p := by obtain ⟨v, _, h2, _⟩ := h; exact h2

/-- New memory, and what others write, is none of a coin's. -/
theorem Coin.apart (h : Coin w F p bs) (hw : Wrote G w w') (ha : Apart F G) : Coin w' F p bs := by
  obtain ⟨v, m, h2, h3, h4⟩ := h
  exact ⟨v, m.keep hw.size (hw.block _ m.lt (ha p h2)) (fun g hg => hw.block _ (h4 g (h3 g hg)) (ha g (h3 g hg))), h2, h3, fun g hg => Nat.lt_of_lt_of_le (h4 g hg) hw.size⟩
theorem Coin.fresh (h : Coin w F p bs) (hb : Below w.heap.size w w') : Coin w' F p bs := h.apart (Wrote.of hb (fun _ => False)) (fun _ _ h => h)
theorem Coin.drew (h : Coin w F p bs) : Coin w.drew F p bs := h.fresh (Below.refl _ _).drew
theorem Coin.did (h : Coin w F p bs) (hb : Below w.heap.size w w') : DidC F p bs w w' := ⟨F, h.fresh hb, Wrote.of hb F, Later.refl _ _⟩
theorem DidC.trans {a b c : World} {bs' : List Bool} (h : Wrote F a b) (hl : Later F G a) (d : DidC G p bs' b c) : DidC F p bs' a c := by
  obtain ⟨F', h1, h2, h3⟩ := d
  exact ⟨F', h1, h.step hl h2, hl.trans h3 h.size⟩
end

theorem newCoin (w : World) : Coin (w.alloc (.cells #[.slice none 0 0] 145)) (New w (w.alloc (.cells #[.slice none 0 0] 145))) w.heap.size [] :=
  ⟨.slice none 0 0, ⟨heap_alloc_new w _, Tail.nothing, by simp [Value.ownBlock], by simp⟩, ⟨Nat.le_refl _, by simp⟩, by simp [Value.ownBlock], fun g hg => hg.2⟩

theorem newC (w : World) :
    Calls Tryz.prog 46 #[] w fun e w' => e = .returned (.pointer (some ⟨w.heap.size, 0, none⟩)) ∧ Coin w' (New w w') w.heap.size [] ∧ Below w.heap.size w w' := by
  go_enter Tryz.func46, Tryz.ntmps46
  go_wp2
  go_ret
  exact ⟨rfl, newCoin w, (Below.refl _ _).alloc (Nat.le_refl _) _⟩

section
variable {w : World} {F : Nat → Prop} {p : Nat} {bs : List Bool}

theorem leftAny (h : Coin w F p bs) :
    Calls Tryz.prog 241 #[.pointer (some ⟨p, 0, none⟩)] w fun e w' => e = .returned (.int .i64 bs.length) ∧ w = w' := by
  obtain ⟨v, m, _⟩ := h
  have c0 := m.c0
  obtain ⟨ao, cap, rfl, _⟩ := m.shape
  clear m
  go_enter Tryz.func241, Tryz.ntmps241
  go_wp2
  go_ret
  exact ⟨rfl, rfl⟩

theorem tossNone (h : Coin w F p []) :
    Calls Tryz.prog 231 #[.pointer (some ⟨p, 0, none⟩)] w fun e w' => e = .returned (.bool false) ∧ w = w' := by
  have L := leftAny h
  clear h
  go_enter Tryz.func231, Tryz.ntmps231
  go_wp2_with (go_at_call 241; refine L.mono ?_; rintro e w' ⟨rfl, rfl⟩)
  go_ret
  exact ⟨rfl, rfl⟩

/-- What stands behind the cut. -/
theorem tossed {b : Bool} {g off cap k : Nat} (hk : k = bs.length) (m : CoinV w p (.slice (some ⟨g, off, none⟩) (k + 1) cap) (b :: bs)) (h2 : F p) (h3 : F g) (h4 : ∀ g, F g → g < w.heap.size) (A : Option Addr) (hA : A = if cap = 1 then some ⟨g, off, none⟩ else some ⟨g, off + 1, none⟩) :
    DidC F p bs w (w.setCell ⟨p, 0, none⟩ (.slice A k (cap - 1))) := by
  subst hk
  have ht := m.row
  rw [show bs.length + 1 = (bs.map Value.bool).length + 1 by simp, List.map_cons] at ht
  have hr := ht.rest
  rw [List.length_map] at hr
  have hne : (Value.slice A bs.length (cap - 1)).ownBlock = some g := by subst hA; split <;> rfl
  have hm := m.ne
  refine ⟨F, ⟨_, m.setList (v' := .slice A bs.length (cap - 1)) (by rw [hA]; exact hr) (by have := m.len; simp at this; omega) (by rw [hne]; exact hm), h2, ?_, ?_⟩, (Wrote.refl F w).setCell (.inr h2) _, Later.refl _ _⟩
  · intro g' hg'
    rw [hne] at hg'
    injection hg' with hg'
    subst hg'
    exact h3
  · simpa [World.setCell] using h4

set_option maxRecDepth 100000 in
set_option maxHeartbeats 1600000 in
theorem tossOk (b : Bool) (h : Coin w F p (b :: bs)) :
    Calls Tryz.prog 231 #[.pointer (some ⟨p, 0, none⟩)] w fun e w' => e = .returned (.bool b) ∧ DidC F p bs w w' := by
  have L := leftAny h
  have hz := h.len
  obtain ⟨v, m, h2, h3, h4⟩ := h
  obtain ⟨k, hk⟩ : ∃ k, k = bs.length := ⟨_, rfl⟩
  have hl : (b :: bs).length = k + 1 := by simp [hk]
  rw [hl] at L hz
  obtain ⟨g, off, cap, hv, hc, cx⟩ := Tail.first (x := .bool b) (xs := bs.map Value.bool) (by simpa using m.row)
  rw [List.length_map, ← hk] at hv hc
  subst hv
  have c0 := m.c0
  have f0 := m.f 0
  by_cases h1 : cap = 1
  · have HQ := Lib.hid (tossed hk m h2 (h3 g rfl) h4 (some ⟨g, off, none⟩) (by rw [if_pos h1]))
    clear m hl h2 h3 h4 hk
    subst h1
    obtain rfl : k = 0 := by omega
    go_enter Tryz.func231, Tryz.ntmps231
    go_wp2_with (go_at_call 241; refine L.mono ?_; rintro e w' ⟨rfl, rfl⟩)
    go_ret
    exact ⟨rfl, HQ.out⟩
  · have HQ := Lib.hid (tossed hk m h2 (h3 g rfl) h4 (some ⟨g, off + 1, none⟩) (by rw [if_neg h1]))
    clear m hl h2 h3 h4 hk
    go_enter Tryz.func231, Tryz.ntmps231
    go_wp2_with (go_at_call 241; refine L.mono ?_; rintro e w' ⟨rfl, rfl⟩)
    go_ret
    exact ⟨rfl, HQ.out⟩

end

end Go.Proofs.YtkbhemaijbkpbaaGreat
namespace Go.Proofs.YtkbhemaijbkpbaaGreat
open Go.RowKit

/-- In the midst of a height: j is what it is so far. -/
def Mid (w : World) (F : Nat → Prop) (p : Nat) (bs : List Bool) (j : Nat) (wr : World) : Prop :=
  ∃ cs, DidC F p cs w wr ∧ up bs + 1 = j + (rise (8 - j) cs).1 ∧ left bs = (rise (8 - j) cs).2

theorem Mid.start {w : World} {F : Nat → Prop} {p : Nat} {bs : List Bool} (h : Coin w F p bs) : Mid w F p bs 1 w := ⟨bs, h.did (Below.refl _ _), by show (rise 7 bs).1 + 1 = 1 + (rise 7 bs).1; omega, rfl⟩

/-- How a height ends. -/
def High (F : Nat → Prop) (p : Nat) (bs : List Bool) (w : World) (e : Ending) (w' : World) : Prop := e = .returned (.int .i64 ((up bs : Int) + 1)) ∧ DidC F p (left bs) w w'

theorem high_mk {F : Nat → Prop} {p j : Nat} {bs : List Bool} {w w' : World} (hj : up bs + 1 = j) (d : DidC F p (left bs) w w') : High F p bs w (.returned (.int .i64 (j : Int))) w' := by
  subst hj
  exact ⟨rfl, d⟩

section
variable {w : World} {F : Nat → Prop} {p : Nat} {bs : List Bool}

set_option maxRecDepth 100000 in
set_option maxHeartbeats 1600000 in
theorem heightAny (h : Coin w F p bs) :
    Calls Tryz.prog 152 #[.pointer (some ⟨p, 0, none⟩)] w (High F p bs w) := by
  have HS := Lib.hid (Mid.start h)
  clear h
  go_enter Tryz.func152, Tryz.ntmps152
  go_wp2
  go_step3
  go_wp2
  go_step3
  go_wp2
  go_loopw [3] (fun h wr => ∃ j : Nat, 1 ≤ j ∧ j ≤ 8 ∧ h = .int .i64 j ∧ Mid w F p bs j wr) (fun h _ => 8 - (intOf h).toNat)
  case atStart => exact ⟨1, by omega, by omega, rfl, HS.out⟩
  case round =>
    obtain ⟨j, j1, j8, rfl, cs, ⟨F', c, wr', l⟩, hu, hl⟩ := hrel
    clear HS
    by_cases h8 : j = 8
    · subst h8
      have hj : up bs + 1 = 8 := by
        have e : (rise (8 - 8) cs).1 = 0 := by simp [rise]
        omega
      have hd : DidC F p (left bs) w wr := by rw [hl]; exact ⟨F', c, wr', l⟩
      have HU := Lib.hid (high_mk (j := 8) hj hd)
      clear hu hl c wr' l hj hd
      go_wp2
      (try rw [Exit.noGoto_ret])
      go_ret
      exact HU.out
    · obtain ⟨n, hn⟩ : ∃ n, 8 - j = n + 1 := ⟨7 - j, by omega⟩
      rw [hn] at hu hl
      have i8 : (j : Int) < 8 := by omega
      cases cs with
      | nil =>
        have C := tossNone c
        have hj : up bs + 1 = j := by simp only [rise] at hu; omega
        have hd : DidC F p (left bs) w wr := by rw [hl]; exact ⟨F', c, wr', l⟩
        have HU := Lib.hid (high_mk hj hd)
        clear hu hl c wr' l hn hj hd
        go_wp2_with (go_at_call 231; refine C.mono ?_; rintro e w' ⟨rfl, rfl⟩)
        (try rw [Exit.noGoto_ret])
        go_ret
        exact HU.out
      | cons b cs =>
        have C := tossOk b c
        have HD := Lib.hid (fun (w1 : World) (d : DidC F' p cs wr w1) => DidC.trans wr' l d)
        cases b with
        | false =>
          have HU := Lib.hid (And.intro hu hl)
          clear hu hl c wr' l hn
          go_wp2_with (go_at_call 231; refine C.mono ?_; rintro e w1 ⟨rfl, d⟩; have HD := Lib.hid (HD.out _ d); clear d)
          (try rw [Exit.noGoto_ret])
          go_ret
          have hu := HU.out.1
          have hl := HU.out.2
          exact high_mk (j := j) (by simp only [rise] at hu; omega) (by rw [hl]; exact HD.out)
        | true =>
          have HU := Lib.hid (And.intro hu (And.intro hl hn))
          clear hu hl c wr' l hn
          go_wp2_with (go_at_call 231; refine C.mono ?_; rintro e w1 ⟨rfl, d⟩; have HD := Lib.hid (HD.out _ d); clear d)
          go_roundw
          case rel =>
            obtain ⟨hu, hl, hn⟩ := HU.out
            refine ⟨j + 1, by omega, by omega, by go_num, cs, HD.out, ?_, ?_⟩
            · rw [show 8 - (j + 1) = n by omega]; simp only [rise] at hu; omega
            · rw [show 8 - (j + 1) = n by omega]; simpa only [rise] using hl
          case measure => simp [intOf]; omega

end

end Go.Proofs.YtkbhemaijbkpbaaGreat
namespace Go.Proofs.YtkbhemaijbkpbaaGreat
open Go.RowKit

section
variable {w : World} {F : Nat → Prop} {p : Nat} {bs : List Bool}

end

end Go.Proofs.YtkbhemaijbkpbaaGreat
namespace Go.Proofs.YtkbhemaijbkpbaaGreat
open Go.RowKit

/-- A coin whose blocks are all new, and nothing old is touched. -/
def AtC (w : World) (F : Nat → Prop) (p : Nat) (bs : List Bool) (wr : World) : Prop := Coin wr F p bs ∧ Below w.heap.size w wr ∧ ∀ g, F g → w.heap.size ≤ g

section
variable {w a b : World} {F G : Nat → Prop} {p q : Nat} {bs bs' cs : List Bool}
theorem AtC.new (h : Coin b (New w b) p bs) (hb : Below w.heap.size w b) : AtC w (New w b) p bs b := ⟨h, hb, fun _ hg => hg.1⟩
theorem AtC.fresh (h : AtC w F p bs a) (hb : Below a.heap.size a b) : AtC w F p bs b := ⟨h.1.fresh hb, h.2.1.trans (hb.mono h.2.1.size), h.2.2⟩
theorem AtC.drew (h : AtC w F p bs a) : AtC w F p bs a.drew := h.fresh (Below.refl _ _).drew
theorem AtC.next (h : AtC w F p bs a) (d : DidC F p bs' a b) : ∃ F', AtC w F' p bs' b ∧ Wrote F a b ∧ Later F F' a := by
  obtain ⟨F', s, wr, l⟩ := d
  refine ⟨F', ⟨s, h.2.1.trans (wr.below h.2.1.size h.2.2), fun g hg => ?_⟩, wr, l⟩
  rcases l g hg with h1 | h1
  · exact h.2.2 g h1
  · exact Nat.le_trans h.2.1.size h1
theorem AtC.lt (h : AtC w F p bs a) : ∀ g, F g → g < a.heap.size := h.1.foot
/-- Old memory is none of its own. -/
theorem AtC.old (h : AtC w F p bs a) {ao : Option Addr} {n : Nat} (ho : 0 < n → ∀ x, ao = some x → x.block < w.heap.size) : 0 < n → Off F ao := fun hp x e hf => by
  have := ho hp x e
  have := h.2.2 _ hf
  omega
/-- TwoC coins that know nothing of one another. -/
structure TwoC (w : World) (F G : Nat → Prop) (p q : Nat) (bs cs : List Bool) (a : World) : Prop where
  c : AtC w F p bs a
  d : AtC w G q cs a
  ap : Apart F G

theorem TwoC.fresh (h : TwoC w F G p q bs cs a) (hb : Below a.heap.size a b) : TwoC w F G p q bs cs b := ⟨h.c.fresh hb, h.d.fresh hb, h.ap⟩
end

end Go.Proofs.YtkbhemaijbkpbaaGreat
namespace Go.Proofs.YtkbhemaijbkpbaaGreat
open Go.RowKit

section
variable {w : World} {F : Nat → Prop} {p : Nat} {bs : List Bool}

end

end Go.Proofs.YtkbhemaijbkpbaaGreat
namespace Go.Proofs.YtkbhemaijbkpbaaGreat
open Go.RowKit Go.Lib

/-- The value of a holder. -/
def holdV (t : TypeId) (p : Nat) : Value := .iface t (.agg #[.pointer (some ⟨p, 0, none⟩)])

set_option maxRecDepth 100000 in
set_option maxHeartbeats 1600000 in
theorem holdNew1 (n : Int) (w : World) :
    Calls Tryz.prog 66 #[.int .i64 n] w fun e w' => ∃ p, e = .returned (holdV 135 p) ∧ K9.Stk w' (New w w') p (mostOf n) [] ∧ Below w.heap.size w w' := by
  have N := Lib.hid (K9.newAny n w)
  go_enter Tryz.func66, Tryz.ntmps66
  go_wp2_with fail
  refine N.out.mono ?_
  clear N
  rintro e w1 ⟨rfl, h, b⟩
  have H := Lib.hid (And.intro h b)
  clear h b
  go_wp2
  go_ret
  exact ⟨_, rfl, H.out.1, H.out.2⟩

set_option maxRecDepth 100000 in
set_option maxHeartbeats 1600000 in
theorem holdNew2 (n : Int) (w : World) :
    Calls Tryz.prog 68 #[.int .i64 n] w fun e w' => ∃ p, e = .returned (holdV 139 p) ∧ D10.Rng w' (New w w') p (mostOf n) [] ∧ Below w.heap.size w w' := by
  have N := Lib.hid (D10.newAny n w)
  go_enter Tryz.func68, Tryz.ntmps68
  go_wp2_with fail
  refine N.out.mono ?_
  clear N
  rintro e w1 ⟨q, rfl, h, b⟩
  have H := Lib.hid (And.intro h b)
  clear h b
  go_wp2
  go_ret
  exact ⟨_, rfl, H.out.1, H.out.2⟩

set_option maxRecDepth 100000 in
set_option maxHeartbeats 1600000 in
theorem holdNew3 (n : Int) (w : World) :
    Calls Tryz.prog 70 #[.int .i64 n] w fun e w' => ∃ p, e = .returned (holdV 143 p) ∧ Skip w' (New w w') p (mostOf n) [] ∧ Below w.heap.size w w' := by
  have N := Lib.hid (newS n w)
  go_enter Tryz.func70, Tryz.ntmps70
  go_wp2_with fail
  refine N.out.mono ?_
  clear N
  rintro e w1 ⟨rfl, h, b⟩
  have H := Lib.hid (And.intro h b)
  clear h b
  go_wp2
  go_ret
  exact ⟨_, rfl, H.out.1, H.out.2⟩

end Go.Proofs.YtkbhemaijbkpbaaGreat
namespace Go.Proofs.YtkbhemaijbkpbaaGreat
open Go.RowKit

/-- A list, or none, whose blocks are all of F. -/
def SkO (w : World) (F : Nat → Prop) (sp : Option Nat) (m : Int) (l : List It) : Prop :=
  (∀ g, F g → g < w.heap.size) ∧ match sp with
  | none => m = 0 ∧ l = []
  | some p => Skip w F p m l
/-- Its pointer. -/
def ptrS (sp : Option Nat) : Option Addr := sp.map fun p => ⟨p, 0, none⟩
/-- What a call on it leaves. -/
def DidSO (F : Nat → Prop) (sp : Option Nat) (m : Int) (l : List It) (w w' : World) : Prop := ∃ F', SkO w' F' sp m l ∧ Wrote F w w' ∧ Later F F' w

section
variable {w w' : World} {F G : Nat → Prop} {sp : Option Nat} {p : Nat} {m : Int} {l : List It}
theorem SkO.of (h : Skip w F p m l) : SkO w F (some p) m l := ⟨h.foot, h⟩
theorem SkO.nil (w : World) : SkO w (fun _ => False) none 0 [] := ⟨fun _ h => h.elim, rfl, rfl⟩
theorem SkO.room (h : SkO w F sp m l) : (l.length : Int) ≤ m ∧ 0 ≤ m ∧ m ≤ 1000 := by
  cases sp with
  | none => obtain ⟨_, rfl, rfl⟩ := h; simp
  | some p => exact ⟨Skip.len h.2, (Skip.mo h.2).1, (Skip.mo h.2).2⟩
theorem SkO.apart (h : SkO w F sp m l) (hw : Wrote G w w') (ha : Apart F G) : SkO w' F sp m l := by
  refine ⟨fun g hg => Nat.lt_of_lt_of_le (h.1 g hg) hw.size, ?_⟩
  cases sp with
  | none => exact h.2
  | some p => exact Skip.apart h.2 hw ha
theorem SkO.fresh (h : SkO w F sp m l) (hb : Below w.heap.size w w') : SkO w' F sp m l := h.apart (Wrote.of hb (fun _ => False)) (fun _ _ h => h)
theorem wrote1 (w : World) (g i : Nat) (u : Value) : Wrote (fun k => k = g) w (w.setCell ⟨g, i, none⟩ u) := (Wrote.refl (fun k => k = g) w).setCell (q := ⟨g, i, none⟩) (Or.inr rfl) u
theorem wrote2 (w : World) (g i j : Nat) (u v : Value) : Wrote (fun k => k = g) w ((w.setCell ⟨g, i, none⟩ u).setCell ⟨g, j, none⟩ v) := (wrote1 w g i u).setCell (q := ⟨g, j, none⟩) (Or.inr rfl) v
theorem SkO.set2 (h : SkO w F sp m l) {g : Nat} (hn : ¬ F g) (u v : Value) : SkO ((w.setCell ⟨g, 0, none⟩ u).setCell ⟨g, 1, none⟩ v) F sp m l := h.apart (wrote2 w g 0 1 u v) (fun _ h1 h2 => hn (h2 ▸ h1))
theorem SkO.did (h : SkO w F sp m l) (hb : Below w.heap.size w w') : DidSO F sp m l w w' := ⟨F, h.fresh hb, Wrote.of hb F, Later.refl _ _⟩
theorem DidSO.of (d : DidS F p m l w w') : DidSO F (some p) m l w w' := by
  obtain ⟨F', h1, h2, h3⟩ := d
  exact ⟨F', SkO.of h1, h2, h3⟩
theorem DidSO.trans {a b c : World} {l' : List It} (h : Wrote F a b) (hl : Later F G a) (d : DidSO G sp m l' b c) : DidSO F sp m l' a c := by
  obtain ⟨F', h1, h2, h3⟩ := d
  exact ⟨F', h1, h.step hl h2, hl.trans h3 h.size⟩
theorem DidSO.more {a b c : World} (d : DidSO F sp m l a b) (hb : Below b.heap.size b c) : DidSO F sp m l a c := by
  obtain ⟨F', h1, h2, h3⟩ := d
  exact ⟨F', h1.fresh hb, h2.trans (Wrote.of hb F), h3⟩
theorem DidSO.less {a b c : World} (hb : Below a.heap.size a b) (d : DidSO F sp m l b c) : DidSO F sp m l a c := DidSO.trans (Wrote.of hb F) (Later.refl _ _) d

theorem lenSO (h : SkO w F sp m l) : Calls Tryz.prog 206 #[.pointer (ptrS sp)] w fun e w' => e = .returned (.int .i64 l.length) ∧ w = w' := by
  cases sp with
  | none => obtain ⟨_, _, rfl⟩ := h; exact lenNil w
  | some p => exact lenAny h.2
theorem mostSO (h : SkO w F sp m l) : Calls Tryz.prog 226 #[.pointer (ptrS sp)] w fun e w' => e = .returned (.int .i64 m) ∧ w = w' := by
  cases sp with
  | none => obtain ⟨_, rfl, _⟩ := h; exact mostNil w
  | some p => exact mostAny h.2
theorem minSO (h : SkO w F sp m l) :
    Calls Tryz.prog 232 #[.pointer (ptrS sp)] w fun e w' => e = .returned (.tuple #[.int .i32 ((vals l).headD 0), .bool (decide (l ≠ []))]) ∧ DidSO F sp m l.tail w w' := by
  cases sp with
  | none =>
    have hs := h
    obtain ⟨_, rfl, rfl⟩ := h
    exact (minNil w).mono fun e w' ⟨he, hw⟩ => ⟨he, by subst hw; exact hs.did (Below.refl _ _)⟩
  | some p =>
    refine (minAny h.2).mono fun e w' ⟨he, d⟩ => ⟨?_, DidSO.of d⟩
    rw [he]
    cases l <;> rfl

set_option maxRecDepth 100000 in
set_option maxHeartbeats 1600000 in
theorem roomSO (h : SkO w F sp m l) : Calls Tryz.prog 219 #[.pointer (ptrS sp)] w fun e w' => e = .returned (.int .i64 (m - l.length)) ∧ w = w' := by
  have L := lenSO h
  have M := mostSO h
  obtain ⟨h1, h2, h3⟩ := h.room
  have e1 : IntKind.i64.wrap (m - (l.length : Int)) = m - (l.length : Int) := by rw [IntKind.wrap_i64]; omega
  clear h
  generalize (l.length : Int) = n at *
  go_enter Tryz.func219, Tryz.ntmps219
  go_wp2_with (first | (go_at_call 226; refine M.mono ?_; rintro e w' ⟨rfl, rfl⟩) | (go_at_call 206; refine L.mono ?_; rintro e w' ⟨rfl, rfl⟩))
  go_ret
  exact ⟨rfl, rfl⟩

set_option maxRecDepth 100000 in
set_option maxHeartbeats 1600000 in
theorem addedAny (w : World) (b : Bool) : Calls Tryz.prog 220 #[.bool b] w fun e w' => e = .returned (.agg #[.int .u8 (if b then 1 else 3), .int .i32 0]) ∧ Below w.heap.size w w' := by
  cases b
  · go_enter Tryz.func220, Tryz.ntmps220
    go_wp2
    exact bodyPost_ret (v := .agg #[.int .u8 3, .int .i32 0]) (by simp [results, Tryz.results220, go_sem]) rfl ⟨rfl, by exact (Below.refl _ _).alloc (Nat.le_refl _) _⟩
  · go_enter Tryz.func220, Tryz.ntmps220
    go_wp2
    exact bodyPost_ret (v := .agg #[.int .u8 1, .int .i32 0]) (by simp [results, Tryz.results220, go_sem]) rfl ⟨rfl, by exact (Below.refl _ _).alloc (Nat.le_refl _) _⟩

theorem begunS (w : World) (k x : Int) : ∀ W, (w.alloc (.cells #[.int .u8 k, .int .i32 x] 38)).alloc (.cells #[.int .u8 0, .int .i32 0] 74) = W →
    OBox W w.heap.size k x ∧ RBox W (w.heap.size + 1) 0 0 ∧ Below w.heap.size w W ∧ W.heap.size = w.heap.size + 2 := by
  rintro W rfl
  have h := RBox.new (w.alloc (.cells #[.int .u8 k, .int .i32 x] 38)) 0 0
  refine ⟨(OBox.new w k x).alloc _, by simpa using h, ((Below.refl _ _).alloc (Nat.le_refl _) _).alloc (by simp) _, by simp⟩

set_option maxRecDepth 100000 in
set_option maxHeartbeats 3200000 in
theorem takenMin (h : SkO w F sp m l) (kv : Int) :
    Calls Tryz.prog 221 #[.pointer (ptrS sp), .agg #[.int .u8 2, .int .i32 kv]] w fun e w' => e = .returned (.agg #[.int .u8 (if l = [] then 4 else 2), .int .i32 ((vals l).headD 0)]) ∧ DidSO F sp m l.tail w w' := by
  have HH := Lib.hid h
  clear h
  go_enter Tryz.func221, Tryz.ntmps221
  go_upto_region 1 with (fail)
  generalize hW : (w.alloc (.cells #[.int .u8 2, .int .i32 kv] 38)).alloc (.cells #[.int .u8 0, .int .i32 0] 74) = W
  obtain ⟨o0, b0, hb, hs⟩ := begunS w _ _ W hW
  have c0 := o0.c0
  have HB := Lib.hid hb
  have HZ := Lib.hid b0
  clear hW hb o0 b0
  have C := Lib.hid (minSO (HH.out.fresh HB.out))
  have HL := Lib.hid (show ∀ g, F g → g < w.heap.size from HH.out.1)
  go_wp2_with fail
  refine C.out.mono ?_
  rintro e w1 ⟨rfl, d⟩
  obtain ⟨F', s1, wr, lt⟩ := d
  have b1 := HZ.out.off (F := F) (fun e => by have := HL.out _ e; omega) wr
  have HS := Lib.hid s1
  have HWr := Lib.hid ((Wrote.of HB.out F).trans wr)
  have HLt := Lib.hid (show Later F F' w from fun g hg => (lt g hg).imp id (fun h => Nat.le_trans HB.out.size h))
  have HF' := Lib.hid (show ¬ F' (w.heap.size + 1) from fun e => by
    rcases lt _ e with h | h
    · have := HL.out _ h; omega
    · omega)
  clear s1 wr lt C
  have c0 := b1.c0
  have c1 := b1.c1
  have f := b1.f
  cases l with
  | nil =>
    have r := b1.set2 4 0
    have r0 := r.c0
    have r1 := r.c1
    clear b1 r
    go_wp2
    exact bodyPost_ret (v := .agg #[.int .u8 4, .int .i32 0]) (by simp [results, Tryz.results221, go_sem, r0, r1]) rfl ⟨rfl, F', HS.out.set2 HF'.out _ _, (HWr.out.setCell (q := ⟨w.heap.size + 1, 0, none⟩) (.inl (by simp)) _).setCell (q := ⟨w.heap.size + 1, 1, none⟩) (.inl (by simp)) _, HLt.out⟩
  | cons i l =>
    have hv : (vals (i :: l)).headD 0 = i.v := rfl
    rw [hv]
    have r := b1.set2 2 i.v
    have r0 := r.c0
    have r1 := r.c1
    clear b1 r
    go_wp2
    exact bodyPost_ret (v := .agg #[.int .u8 2, .int .i32 i.v]) (by simp [results, Tryz.results221, go_sem, r0, r1]) rfl ⟨rfl, F', HS.out.set2 HF'.out _ _, (HWr.out.setCell (q := ⟨w.heap.size + 1, 0, none⟩) (.inl (by simp)) _).setCell (q := ⟨w.heap.size + 1, 1, none⟩) (.inl (by simp)) _, HLt.out⟩

set_option maxRecDepth 100000 in
set_option maxHeartbeats 3200000 in
theorem takenBad (h : SkO w F sp m l) (kd kv : Int) (h2 : ¬ kd = 2) :
    Calls Tryz.prog 221 #[.pointer (ptrS sp), .agg #[.int .u8 kd, .int .i32 kv]] w fun e w' => e = .returned (.agg #[.int .u8 5, .int .i32 0]) ∧ DidSO F sp m l w w' := by
  have HH := Lib.hid h
  clear h
  go_enter Tryz.func221, Tryz.ntmps221
  go_upto_region 1 with (fail)
  generalize hW : (w.alloc (.cells #[.int .u8 kd, .int .i32 kv] 38)).alloc (.cells #[.int .u8 0, .int .i32 0] 74) = W
  obtain ⟨o0, b0, hb, hs⟩ := begunS w _ _ W hW
  have c0 := o0.c0
  have HB := Lib.hid hb
  have HZ := Lib.hid b0
  clear hW hb o0 b0
  have d2 : (kd != 2) = true := by simpa using h2
  have c0' := HZ.out.c0
  have c1' := HZ.out.c1
  have f := HZ.out.f
  have r := HZ.out.set2 5 0
  have r0 := r.c0
  have r1 := r.c1
  clear r
  go_wp2
  exact bodyPost_ret (v := .agg #[.int .u8 5, .int .i32 0]) (by simp [results, Tryz.results221, go_sem, r0, r1]) rfl ⟨rfl, HH.out.did ((HB.out.setCell (p := ⟨w.heap.size + 1, 0, none⟩) (by simp) _).setCell (p := ⟨w.heap.size + 1, 1, none⟩) (by simp) _)⟩

theorem takenAny (h : SkO w F sp m l) (kd kv : Int) (hk : ¬ kd = 1) :
    Calls Tryz.prog 221 #[.pointer (ptrS sp), .agg #[.int .u8 kd, .int .i32 kv]] w fun e w' => e = .returned (.agg #[.int .u8 (hpC m (vals l) kd), .int .i32 (hpV (vals l) kd)]) ∧ DidSO F sp m (if kd = 2 then l.tail else l) w w' := by
  by_cases h2 : kd = 2
  · subst h2
    have := takenMin h kv
    have e : (vals l = []) = (l = []) := by simp [vals]
    simpa [hpC, hpV, e] using this
  · have := takenBad h kd kv h2
    simpa [hpC, hpV, hk, h2] using this
end

end Go.Proofs.YtkbhemaijbkpbaaGreat
