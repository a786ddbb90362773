/-
  An object in memory: what holds its items, its coin, its own block; what a call leaves of it. Conditions: none; no Go function is walked here. New of package object: an empty one of a stack, a deque, a heap; none of any other. Conditions: none. slices.swapRangeCmpFunc exchanges two ranges of a row of ints. Conditions: a row of one's own. slices.rotateCmpFunc exchanges two ranges of a row of ints that lie side by side. Conditions: a row of one's own.
-/
import Derived.Test.YtikaoikladbdpaaGreatG1616
import Derived.Test.YtikaoikladbdpaaGreatG1516
import Derived.Test.YtikaoikladbdpaaGreatQDo11m
import Derived.Test.YtikaoikladbdpaaGreatG0216
namespace Go.Proofs.YtikaoikladbdpaaGreat
open Go.RowKit Go.Lib

def OBlk (w : World) (o : Nat) (h : Value) (q : Nat) (pl : Bool) : Prop := w.heap[o]? = some (.cells #[h, .pointer (some ⟨q, 0, none⟩), .bool pl] 107 (0, 0))
section
variable {w w' : World} {o q : Nat} {h : Value} {pl : Bool}
theorem OBlk.lt (x : OBlk w o h q pl) : o < w.heap.size := lt_of_block x
theorem OBlk.c0 (x : OBlk w o h q pl) : w.cell? ⟨o, 0, none⟩ = some h := by unfold OBlk at x; simp [World.cell?, x]
theorem OBlk.c1 (x : OBlk w o h q pl) : w.cell? ⟨o, 1, none⟩ = some (.pointer (some ⟨q, 0, none⟩)) := by unfold OBlk at x; simp [World.cell?, x]
theorem OBlk.c2 (x : OBlk w o h q pl) : w.cell? ⟨o, 2, none⟩ = some (.bool pl) := by unfold OBlk at x; simp [World.cell?, x]
theorem OBlk.keep (x : OBlk w o h q pl) (e : w'.heap[o]? = w.heap[o]?) : OBlk w' o h q pl := e.trans x
theorem OBlk.new (w : World) (h : Value) (q : Nat) (pl : Bool) : OBlk (w.alloc (.cells #[h, .pointer (some ⟨q, 0, none⟩), .bool pl] 107)) w.heap.size h q pl := heap_alloc_new w _
end

def Held (k : Int) (w : World) (H : Nat → Prop) (p : Nat) (m : Int) (l : List It) : Prop :=
  (k = 1 ∧ K9.Stk w H p m (vals l)) ∨ (k = 2 ∧ D10.Rng w H p m (vals l)) ∨ (k = 3 ∧ SkO w H (some p) m l)
def tyOf (k : Int) : TypeId := if k = 1 then 135 else if k = 2 then 139 else 143

section
variable {w w' : World} {F F' G H : Nat → Prop} {k m : Int} {p q o : Nat} {l l' : List It} {pl : Bool} {s s' : List It × List Bool}
theorem Held.foot (h : Held k w H p m l) : ∀ g, H g → g < w.heap.size := by
  rcases h with h | h | h
  · exact h.2.foot
  · exact h.2.foot
  · exact h.2.1
theorem Held.apart (h : Held k w H p m l) (hw : Wrote G w w') (ha : Apart H G) : Held k w' H p m l := by
  rcases h with h | h | h
  · exact .inl ⟨h.1, h.2.apart hw ha⟩
  · exact .inr (.inl ⟨h.1, h.2.apart hw ha⟩)
  · exact .inr (.inr ⟨h.1, h.2.apart hw ha⟩)
def Ob (w : World) (F : Nat → Prop) (o : Nat) (k m : Int) (pl : Bool) (s : List It × List Bool) : Prop :=
  ∃ H G p q, OBlk w o (holdV (tyOf k) p) q pl ∧ Held k w H p m s.1 ∧ Coin w G q s.2 ∧ Apart H G ∧ ¬ H o ∧ ¬ G o ∧ F o ∧ (∀ g, H g → F g) ∧ (∀ g, G g → F g) ∧ ∀ g, F g → g < w.heap.size
theorem Ob.foot (h : Ob w F o k m pl s) : ∀ g, F g → g < w.heap.size := by obtain ⟨_, _, _, _, _, _, _, _, _, _, _, _, _, h⟩ := h; exact h
theorem Ob.apart (h : Ob w F o k m pl s) (hw : Wrote G w w') (ha : Apart F G) : Ob w' F o k m pl s := by
  obtain ⟨H, C, p, q, h1, h2, h3, h4, h5, h6, h7, h8, h9, h10⟩ := h
  exact ⟨H, C, p, q, h1.keep (hw.block o h1.lt (fun e => ha o h7 e)), h2.apart hw (fun g a b => ha g (h8 g a) b), h3.apart hw (fun g a b => ha g (h9 g a) b), h4, h5, h6, h7, h8, h9, fun g hg => Nat.lt_of_lt_of_le (h10 g hg) hw.size⟩
theorem Ob.fresh (h : Ob w F o k m pl s) (hb : Below w.heap.size w w') : Ob w' F o k m pl s := h.apart (Wrote.of hb (fun _ => False)) (fun _ _ h => h)

theorem Ob.made {w0 w1 w2 : World} (b0 : Below w.heap.size w w0) (h : Held k w1 (New w0 w1) p m l) (b1 : Below w0.heap.size w0 w1) {bs : List Bool} (c : Coin w2 (New w1 w2) q bs) (b2 : Below w1.heap.size w1 w2) (pl : Bool) :
    ∀ W, w2.alloc (.cells #[holdV (tyOf k) p, .pointer (some ⟨q, 0, none⟩), .bool pl] 107) = W → Ob W (New w W) w2.heap.size k m pl (l, bs) ∧ Below w.heap.size w W := by
  rintro W rfl
  have s0 := b0.size
  have s1 := b1.size
  have s2 := b2.size
  have hb : Below w2.heap.size w2 (w2.alloc (.cells #[holdV (tyOf k) p, .pointer (some ⟨q, 0, none⟩), .bool pl] 107)) := (Below.refl _ _).alloc (Nat.le_refl _) _
  have sz : (w2.alloc (.cells #[holdV (tyOf k) p, .pointer (some ⟨q, 0, none⟩), .bool pl] 107)).heap.size = w2.heap.size + 1 := by simp
  refine ⟨⟨New w0 w1, New w1 w2, p, q, OBlk.new w2 _ q pl, (h.apart (Wrote.of b2 (fun _ => False)) (fun _ _ h => h)).apart (Wrote.of hb (fun _ => False)) (fun _ _ h => h), c.fresh hb, fun g a b => ?_, fun a => ?_, fun a => ?_, ⟨?_, ?_⟩, fun g a => ⟨?_, ?_⟩, fun g a => ⟨?_, ?_⟩, fun g a => a.2⟩, ((b0.trans (b1.mono s0)).trans (b2.mono (Nat.le_trans s0 s1))).trans (hb.mono (by omega))⟩
  · have := a.2; have := b.1; omega
  · have := a.2; omega
  · have := a.2; omega
  · omega
  · omega
  · have := a.1; omega
  · have := a.2; omega
  · have := a.1; omega
  · have := a.2; omega

def OF (o : Nat) (H G : Nat → Prop) : Nat → Prop := fun g => g = o ∨ H g ∨ G g
theorem Ob.next {w2 : World} {H' G' C : Nat → Prop} (x : OBlk w o (holdV (tyOf k) p) q pl) (n1 : ¬ H o) (n2 : ¬ C o) (f0 : F o) (f1 : ∀ g, H g → F g) (f2 : ∀ g, C g → F g)
    (h : Held k w2 H' p m s'.1) (c : Coin w2 G' q s'.2) (ap : Apart H' G') (wr : Wrote (fun g => H g ∨ C g) w w2) (lH : Later H H' w) (lC : Later C G' w) : Ob w2 (OF o H' G') o k m pl s' ∧ Wrote F w w2 ∧ Later F (OF o H' G') w := by
  refine ⟨⟨H', G', p, q, x.keep (wr.block o x.lt (fun e => e.elim n1 n2)), h, c, ap, lH.not n1 x.lt, lC.not n2 x.lt, .inl rfl, fun g a => .inr (.inl a), fun g a => .inr (.inr a), fun g a => ?_⟩, wr.into (fun g hg => hg.elim (f1 g) (f2 g)), fun g hg => ?_⟩
  · rcases a with rfl | a | a
    · exact Nat.lt_of_lt_of_le x.lt wr.size
    · exact h.foot g a
    · exact c.foot g a
  · rcases hg with rfl | hg | hg
    · exact .inl f0
    · exact (lH g hg).imp (f1 g) id
    · exact (lC g hg).imp (f2 g) id
end

end Go.Proofs.YtikaoikladbdpaaGreat
namespace Go.Proofs.YtikaoikladbdpaaGreat
open Go.RowKit Go.Lib

def ObNew (w : World) (k m : Int) (pl : Bool) (s : List It × List Bool) (e : Ending) (w' : World) : Prop := ∃ o, e = .returned (.pointer (some ⟨o, 0, none⟩)) ∧ Ob w' (New w w') o k m pl s ∧ Below w.heap.size w w'

set_option maxRecDepth 100000 in
set_option maxHeartbeats 3200000 in
theorem obNew1 (n : Int) (pl : Bool) (w : World) :
    Calls Tryz.prog 17 #[.int .u8 1, .int .i64 n, .bool pl] w (ObNew w 1 (mostOf n) pl ([], [])) := by
  have HM := Lib.hid (holdersAny w)
  go_enter Tryz.func17, Tryz.ntmps17
  go_wp2_with fail
  refine HM.out.mono ?_
  clear HM
  rintro e w0 ⟨b0, m, rfl, hm⟩
  have L := run_look8 w0 100 5 98 m holdM 1 true 0 _ Tryz.underlying100 Tryz.underlying5 hm rfl
  have HB := Lib.hid b0
  clear b0 hm
  go_wp2_with fail
  refine (holdNew1 n w0).mono ?_
  clear L
  rintro e w1 ⟨p, rfl, h1, b1⟩
  have H1 := Lib.hid (And.intro (show Held 1 w1 (New w0 w1) p (mostOf n) [] from .inl ⟨rfl, h1⟩) b1)
  clear h1 b1
  unfold holdV
  go_wp2_with fail
  refine (newC w1).mono ?_
  rintro e w2 ⟨rfl, h2, b2⟩
  have H2 := Lib.hid (Ob.made HB.out H1.out.1 H1.out.2 h2 b2 pl _ rfl)
  clear h2 b2 HB H1
  go_wp2
  go_ret
  exact ⟨_, rfl, H2.out.1, H2.out.2⟩

set_option maxRecDepth 100000 in
set_option maxHeartbeats 3200000 in
theorem obNew2 (n : Int) (pl : Bool) (w : World) :
    Calls Tryz.prog 17 #[.int .u8 2, .int .i64 n, .bool pl] w (ObNew w 2 (mostOf n) pl ([], [])) := by
  have HM := Lib.hid (holdersAny w)
  go_enter Tryz.func17, Tryz.ntmps17
  go_wp2_with fail
  refine HM.out.mono ?_
  clear HM
  rintro e w0 ⟨b0, m, rfl, hm⟩
  have L := run_look8 w0 100 5 98 m holdM 2 true 1 _ Tryz.underlying100 Tryz.underlying5 hm rfl
  have HB := Lib.hid b0
  clear b0 hm
  go_wp2_with fail
  refine (holdNew2 n w0).mono ?_
  clear L
  rintro e w1 ⟨p, rfl, h1, b1⟩
  have H1 := Lib.hid (And.intro (show Held 2 w1 (New w0 w1) p (mostOf n) [] from .inr (.inl ⟨rfl, h1⟩)) b1)
  clear h1 b1
  unfold holdV
  go_wp2_with fail
  refine (newC w1).mono ?_
  rintro e w2 ⟨rfl, h2, b2⟩
  have H2 := Lib.hid (Ob.made HB.out H1.out.1 H1.out.2 h2 b2 pl _ rfl)
  clear h2 b2 HB H1
  go_wp2
  go_ret
  exact ⟨_, rfl, H2.out.1, H2.out.2⟩

set_option maxRecDepth 100000 in
set_option maxHeartbeats 3200000 in
theorem obNew3 (n : Int) (pl : Bool) (w : World) :
    Calls Tryz.prog 17 #[.int .u8 3, .int .i64 n, .bool pl] w (ObNew w 3 (mostOf n) pl ([], [])) := by
  have HM := Lib.hid (holdersAny w)
  go_enter Tryz.func17, Tryz.ntmps17
  go_wp2_with fail
  refine HM.out.mono ?_
  clear HM
  rintro e w0 ⟨b0, m, rfl, hm⟩
  have L := run_look8 w0 100 5 98 m holdM 3 true 2 _ Tryz.underlying100 Tryz.underlying5 hm rfl
  have HB := Lib.hid b0
  clear b0 hm
  go_wp2_with fail
  refine (holdNew3 n w0).mono ?_
  clear L
  rintro e w1 ⟨p, rfl, h1, b1⟩
  have H1 := Lib.hid (And.intro (show Held 3 w1 (New w0 w1) p (mostOf n) [] from .inr (.inr ⟨rfl, SkO.of h1⟩)) b1)
  clear h1 b1
  unfold holdV
  go_wp2_with fail
  refine (newC w1).mono ?_
  rintro e w2 ⟨rfl, h2, b2⟩
  have H2 := Lib.hid (Ob.made HB.out H1.out.1 H1.out.2 h2 b2 pl _ rfl)
  clear h2 b2 HB H1
  go_wp2
  go_ret
  exact ⟨_, rfl, H2.out.1, H2.out.2⟩

theorem obNew (k n : Int) (pl : Bool) (w : World) (hk : k = 1 ∨ k = 2 ∨ k = 3) :
    Calls Tryz.prog 17 #[.int .u8 k, .int .i64 n, .bool pl] w (ObNew w k (mostOf n) pl ([], [])) := by
  rcases hk with rfl | rfl | rfl
  · exact obNew1 n pl w
  · exact obNew2 n pl w
  · exact obNew3 n pl w

end Go.Proofs.YtikaoikladbdpaaGreat
namespace Go.Proofs.YtikaoikladbdpaaGreat
open Go.RowKit

def SwRel (w : World) (g n cap : Nat) (P A Q B S : List Int) (i : Value) (wr : World) : Prop :=
  ∃ k : Nat, k ≤ A.length ∧ i = .int .i64 k ∧ IRow wr g n cap (P ++ (B.take k ++ A.drop k) ++ Q ++ (A.take k ++ B.drop k) ++ S) ∧ Wrote (At1 g) w wr

theorem sw_step {P A Q B S : List Int} {k : Nat} (hk : k < A.length) (hab : A.length = B.length) :
    ((P ++ (B.take k ++ A.drop k) ++ Q ++ (A.take k ++ B.drop k) ++ S).set (P.length + k) (B.getD k 0)).set (P.length + A.length + Q.length + k) (A.getD k 0)
      = P ++ (B.take (k + 1) ++ A.drop (k + 1)) ++ Q ++ (A.take (k + 1) ++ B.drop (k + 1)) ++ S := by
  have hkb : k < B.length := by omega
  have ea : A.drop k = A.getD k 0 :: A.drop (k + 1) := by rw [List.drop_eq_getElem_cons hk]; simp [List.getD, hk]
  have eb : B.drop k = B.getD k 0 :: B.drop (k + 1) := by rw [List.drop_eq_getElem_cons hkb]; simp [List.getD, hkb]
  have ta : A.take (k + 1) = A.take k ++ [A.getD k 0] := by rw [List.take_succ_eq_append_getElem hk]; simp [List.getD, hk]
  have tb : B.take (k + 1) = B.take k ++ [B.getD k 0] := by rw [List.take_succ_eq_append_getElem hkb]; simp [List.getD, hkb]
  have h := exch (P ++ B.take k) (A.drop (k + 1) ++ Q ++ A.take k) (B.drop (k + 1) ++ S) (A.getD k 0) (B.getD k 0)
  have l1 : (P ++ B.take k).length = P.length + k := by simp; omega
  have l2 : (P ++ B.take k).length + 1 + (A.drop (k + 1) ++ Q ++ A.take k).length = P.length + A.length + Q.length + k := by simp; omega
  rw [l2, l1] at h
  rw [ea, eb, ta, tb]
  simpa using h

theorem sw_cells {P A Q B S : List Int} {k : Nat} (hk : k < A.length) (hab : A.length = B.length) :
    (P ++ (B.take k ++ A.drop k) ++ Q ++ (A.take k ++ B.drop k) ++ S).getD (P.length + k) 0 = A.getD k 0 ∧
    (P ++ (B.take k ++ A.drop k) ++ Q ++ (A.take k ++ B.drop k) ++ S).getD (P.length + A.length + Q.length + k) 0 = B.getD k 0 := by
  have hkb : k < B.length := by omega
  have ea : A.drop k = A.getD k 0 :: A.drop (k + 1) := by rw [List.drop_eq_getElem_cons hk]; simp [List.getD, hk]
  have eb : B.drop k = B.getD k 0 :: B.drop (k + 1) := by rw [List.drop_eq_getElem_cons hkb]; simp [List.getD, hkb]
  constructor
  · have h := getD_head (P ++ B.take k) (A.drop (k + 1) ++ Q ++ (A.take k ++ B.drop k) ++ S) (A.getD k 0)
    have l1 : (P ++ B.take k).length = P.length + k := by simp; omega
    rw [l1] at h
    rw [ea]
    simpa using h
  · have h := getD_head (P ++ (B.take k ++ A.drop k) ++ Q ++ A.take k) (B.drop (k + 1) ++ S) (B.getD k 0)
    have l2 : (P ++ (B.take k ++ A.drop k) ++ Q ++ A.take k).length = P.length + A.length + Q.length + k := by simp; omega
    rw [l2] at h
    rw [eb]
    simpa using h

set_option maxRecDepth 100000 in
set_option maxHeartbeats 4000000 in
theorem swapRange (w : World) (g n cap : Nat) (P A Q B S : List Int) (a b m : Int) (f : Value) (h : IRow w g n cap (P ++ A ++ Q ++ B ++ S)) (hab : A.length = B.length) (hm : m = A.length) (ha : a = P.length) (hb : b = P.length + A.length + Q.length) (hn : n ≤ 1000000) :
    Calls Tryz.prog 247 #[.slice (some ⟨g, 0, none⟩) n cap, .int .i64 a, .int .i64 b, .int .i64 m, f] w (Rearr w g n cap (P ++ B ++ Q ++ A ++ S)) := by
  have hl : P.length + A.length + Q.length + B.length ≤ n := by have := h.len; simp at this; omega
  have HA := Lib.hid ha
  have HB := Lib.hid hb
  have HM := Lib.hid hm
  have a0 : 0 ≤ a := by omega
  have b0 : 0 ≤ b := by omega
  have ab : a + m ≤ n := by omega
  have bb : b + m ≤ n := by omega
  have m0 : 0 ≤ m := by omega
  clear ha hb hm
  have HS := Lib.hid (show SwRel w g n cap P A Q B S (.int .i64 0) w from ⟨0, Nat.zero_le _, rfl, by simpa using h, Wrote.refl _ _⟩)
  clear h
  go_enter Tryz.func247, Tryz.ntmps247
  go_wp2
  go_loopw [10] (fun i wr => SwRel w g n cap P A Q B S i wr) (fun i _ => A.length - (intOf i).toNat)
  case atStart => exact HS.out
  case round =>
    obtain ⟨k, hk, rfl, hr, hw⟩ := hrel
    have HR := Lib.hid hr
    have HW := Lib.hid hw
    clear HS hr hw
    by_cases hlt : k < A.length
    · have hlt' : (k : Int) < m := by have := HM.out; omega
      obtain ⟨x, hx⟩ : ∃ x, A.getD k 0 = x := ⟨_, rfl⟩
      obtain ⟨y, hy⟩ : ∃ y, B.getD k 0 = y := ⟨_, rfl⟩
      obtain ⟨p, hp⟩ : ∃ p, P.length + k = p := ⟨_, rfl⟩
      obtain ⟨q, hq⟩ : ∃ q, P.length + A.length + Q.length + k = q := ⟨_, rfl⟩
      have hc := sw_cells (P := P) (Q := Q) (S := S) hlt hab
      rw [hx, hy, hp, hq] at hc
      have c1 := HR.out.cell (i := p) (by omega)
      have c2 := HR.out.cell (i := q) (by omega)
      rw [hc.1] at c1
      rw [hc.2] at c2
      have f1 := HR.out.free p
      have f2 := HR.out.free q
      obtain ⟨u, c3⟩ := HR.out.still (i := p) (j := q) (by omega) (by omega) y
      have HN := Lib.hid (HR.out.swap p q y x)
      have HV := Lib.hid (HW.out.trans (wrote_swap wr g p q (.int .i64 y) (.int .i64 x)))
      have e1 : (a + (k : Int)).toNat = p := by have := HA.out; omega
      have e2 : (b + (k : Int)).toNat = q := by have := HB.out; omega
      have e3 : IntKind.i64.wrap (a + (k : Int)) = a + k := by rw [IntKind.wrap_i64]; omega
      have e4 : IntKind.i64.wrap (b + (k : Int)) = b + k := by rw [IntKind.wrap_i64]; omega
      have e5 : 0 ≤ a + (k : Int) := by omega
      have e6 : 0 ≤ b + (k : Int) := by omega
      have e7 : a + (k : Int) < n := by omega
      have e8 : b + (k : Int) < n := by omega
      have HX := Lib.hid (And.intro (And.intro hx hy) (And.intro hp hq))
      clear hc hx hy hp hq HR HW
      go_wp2_with fail
      go_big_region
      clear c1 c2 c3 f1 f2 e1 e2 e3 e4
      generalize ((wr.setCell ⟨g, p, none⟩ (.int .i64 y)).setCell ⟨g, q, none⟩ (.int .i64 x)).drew = w2 at *
      go_wp2
      go_roundw
      case rel => exact ⟨k + 1, by omega, by go_num, by have e := sw_step (P := P) (Q := Q) (S := S) hlt hab; rw [HX.out.1.1, HX.out.1.2, HX.out.2.1, HX.out.2.2] at e; rw [← e]; exact HN.out, HV.out⟩
      case measure => simp [intOf]; omega
    · obtain rfl : k = A.length := by omega
      have hlt' : ¬ ((A.length : Nat) : Int) < m := by have := HM.out; omega
      have HF := Lib.hid (show IRow wr g n cap (P ++ B ++ Q ++ A ++ S) by have := HR.out; rw [List.take_of_length_le (show B.length ≤ A.length by omega), List.take_of_length_le (show A.length ≤ A.length by omega), List.drop_eq_nil_of_le (show A.length ≤ A.length by omega), List.drop_eq_nil_of_le (show B.length ≤ A.length by omega)] at this; simpa using this)
      clear HR
      go_wp2
      go_end0
      exact ⟨rfl, by simpa using HF.out, HW.out⟩

end Go.Proofs.YtikaoikladbdpaaGreat
namespace Go.Proofs.YtikaoikladbdpaaGreat
open Go.RowKit

def RotRel (w : World) (g n cap : Nat) (m : Nat) (T : List Int) (i j : Value) (wr : World) : Prop :=
  ∃ P U V S : List Int, i = .int .i64 U.length ∧ j = .int .i64 V.length ∧ 0 < U.length ∧ 0 < V.length ∧ P.length + U.length = m ∧ IRow wr g n cap (P ++ U ++ V ++ S) ∧ P ++ V ++ U ++ S = T ∧ Wrote (At1 g) w wr

theorem front_of {l : List Int} {k : Nat} (h : k ≤ l.length) : ∃ a b, l = a ++ b ∧ a.length = k ∧ b.length = l.length - k := ⟨l.take k, l.drop k, by simp, by simp; omega, by simp⟩

set_option maxRecDepth 100000 in
set_option maxHeartbeats 4000000 in
theorem rotateRow (w : World) (g n cap : Nat) (P U V S : List Int) (a m b : Int) (f : Value) (h : IRow w g n cap (P ++ U ++ V ++ S)) (hu : 0 < U.length) (hv : 0 < V.length) (ha : a = P.length) (hm : m = P.length + U.length) (hb : b = P.length + U.length + V.length) (hn : n ≤ 1000000) :
    Calls Tryz.prog 246 #[.slice (some ⟨g, 0, none⟩) n cap, .int .i64 a, .int .i64 m, .int .i64 b, f] w (Rearr w g n cap (P ++ V ++ U ++ S)) := by
  have hl : P.length + U.length + V.length + S.length = n := by have := h.len; simp at this; omega
  obtain ⟨M, hM⟩ : ∃ M : Nat, P.length + U.length = M := ⟨_, rfl⟩
  obtain rfl : m = M := by omega
  have ea : (M : Int) - a = U.length := by omega
  have eb : b - (M : Int) = V.length := by omega
  have a0 : 0 ≤ (M : Int) - a := by omega
  have a1 : (M : Int) - a ≤ n := by omega
  have b0 : 0 ≤ b - (M : Int) := by omega
  have b1 : b - (M : Int) ≤ n := by omega
  obtain ⟨T, hT⟩ : ∃ T, P ++ V ++ U ++ S = T := ⟨_, rfl⟩
  rw [hT]
  have HS := Lib.hid (show RotRel w g n cap M T (.int .i64 U.length) (.int .i64 V.length) w from ⟨P, U, V, S, rfl, rfl, hu, hv, hM, h, hT, Wrote.refl _ _⟩)
  have hMn : M ≤ n := by omega
  have u1 : (U.length : Int) ≤ n := by omega
  have v1 : (V.length : Int) ≤ n := by omega
  clear h hT hM hm ha hb hl
  generalize (U.length : Int) = u at *
  generalize (V.length : Int) = v at *
  have HEA := Lib.hid ea
  have HEB := Lib.hid eb
  clear ea eb u1 v1
  go_enter Tryz.func246, Tryz.ntmps246
  go_wp2
  go_loopw [10, 11] (fun i j wr => RotRel w g n cap M T i j wr) (fun i j _ => (intOf i).toNat + (intOf j).toNat)
  case atStart => rw [HEA.out, HEB.out]; exact HS.out
  case round =>
    obtain ⟨P', U', V', S', rfl, rfl, hu', hv', hM', hr, hT, hw⟩ := hrel
    have hl : P'.length + U'.length + V'.length + S'.length = n := by have := hr.len; simp at this; omega
    have HR := Lib.hid hr
    have HW := Lib.hid hw
    have HT := Lib.hid hT
    have HM := Lib.hid (And.intro hM' hl)
    clear HS hr hw hT hM' hl
    rcases Nat.lt_trichotomy U'.length V'.length with hlt | heq | hgt
    · have hM' := HM.out.1
      have hl := HM.out.2
      obtain ⟨V1, V2, e1, l1, l2⟩ := front_of (l := V') (k := V'.length - U'.length) (by omega)
      have d0 : ((U'.length : Int) == (V'.length : Int)) = false := beq_eq_false_iff_ne.2 (by omega)
      have d1 : ((U'.length : Int) != (V'.length : Int)) = true := bne_iff_ne.2 (by omega)
      have d2 : ¬ (V'.length : Int) < (U'.length : Int) := by omega
      have C := swapRange wr g n cap P' U' V1 V2 S' ((M : Int) - U'.length) ((M : Int) + V'.length - U'.length) U'.length f (by have := HR.out; rw [e1] at this; simpa using this) (by omega) rfl (by omega) (by omega) hn
      have HC := Lib.hid C
      have HE := Lib.hid (And.intro e1 (And.intro l1 l2))
      have k1 : (0 : Int) ≤ (M : Int) - U'.length := by omega
      have k2 : (0 : Int) ≤ (M : Int) + V'.length - U'.length := by omega
      have k3 : (M : Int) + V'.length ≤ n := by omega
      clear C e1 l1 l2 HR hM' hl
      go_wp2_with fail
      refine HC.out.mono ?_
      rintro e w2 ⟨rfl, r2, h2⟩
      have HR2 := Lib.hid r2
      have HW2 := Lib.hid (HW.out.trans h2)
      clear r2 h2 HW HC
      go_wp2
      go_roundw
      case rel => exact ⟨P', V2, V1, U' ++ S', by rw [show V2.length = U'.length by have := HE.out; omega], by rw [show (V1.length : Int) = (V'.length : Int) - U'.length by have := HE.out; omega], by have := HE.out; omega, by have := HE.out; omega, by have := HE.out; have := HM.out; omega, by simpa using HR2.out, by rw [← HT.out, HE.out.1]; simp, HW2.out⟩
      case measure => simp [intOf]; omega
    · have hM' := HM.out.1
      have hl := HM.out.2
      have d0 : ((U'.length : Int) == (V'.length : Int)) = true := beq_iff_eq.2 (by omega)
      have d1 : ((U'.length : Int) != (V'.length : Int)) = false := by rw [bne, d0]; rfl
      have C := swapRange wr g n cap P' U' [] V' S' ((M : Int) - U'.length) M U'.length f (by simpa using HR.out) (by omega) rfl (by omega) (by simp; omega) hn
      have HC := Lib.hid C
      have k1 : (0 : Int) ≤ (M : Int) - U'.length := by omega
      clear C HR hM' hl heq
      go_wp2_with fail
      refine HC.out.mono ?_
      rintro e w2 ⟨rfl, r2, h2⟩
      have HR2 := Lib.hid (show IRow w2 g n cap T by rw [← HT.out]; simpa using r2)
      have HW2 := Lib.hid (HW.out.trans h2)
      clear r2 h2 HW HC
      go_wp2
      go_end0
      exact ⟨rfl, HR2.out, HW2.out⟩
    · have hM' := HM.out.1
      have hl := HM.out.2
      obtain ⟨U1, U2, e1, l1, l2⟩ := front_of (l := U') (k := V'.length) (by omega)
      have d0 : ((U'.length : Int) == (V'.length : Int)) = false := beq_eq_false_iff_ne.2 (by omega)
      have d1 : ((U'.length : Int) != (V'.length : Int)) = true := bne_iff_ne.2 (by omega)
      have d2 : (V'.length : Int) < (U'.length : Int) := by omega
      have C := swapRange wr g n cap P' U1 U2 V' S' ((M : Int) - U'.length) M V'.length f (by have := HR.out; rw [e1] at this; simpa using this) (by omega) (by omega) (by omega) (by omega) hn
      have HC := Lib.hid C
      have HE := Lib.hid (And.intro e1 (And.intro l1 l2))
      have k1 : (0 : Int) ≤ (M : Int) - U'.length := by omega
      clear C e1 l1 l2 HR hM' hl
      go_wp2_with fail
      refine HC.out.mono ?_
      rintro e w2 ⟨rfl, r2, h2⟩
      have HR2 := Lib.hid r2
      have HW2 := Lib.hid (HW.out.trans h2)
      clear r2 h2 HW HC
      go_wp2
      go_roundw
      case rel => exact ⟨P' ++ V', U2, U1, S', by rw [show (U2.length : Int) = (U'.length : Int) - V'.length by have := HE.out; omega], by rw [show U1.length = V'.length by have := HE.out; omega], by have := HE.out; omega, by have := HE.out; omega, by have := HE.out; have := HM.out; simp; omega, by simpa using HR2.out, by rw [← HT.out, HE.out.1]; simp, HW2.out⟩
      case measure => simp [intOf]; omega

end Go.Proofs.YtikaoikladbdpaaGreat
