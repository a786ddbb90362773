/-
  What alike of reaperlaw12 tells. Conditions: an object and the document's one beside it, with the same items; at most a thousand. The document's object in a box beside two objects: what is known of it between the calls; what its Do leaves, whichever kind it is of. Conditions: objects as Ob says.
-/
import Derived.Test.YtniefplgijpckaaGreatRefF12
import Derived.Test.YtniefplgijpckaaGreatDeB12
import Derived.Test.YtniefplgijpckaaGreatKn12m
namespace Go.Proofs.YtniefplgijpckaaGreat
open Go.RowKit Go.Lib

theorem alikeBox (w : World) (k m : Int) (ai : Option Addr) (ni ci : Nat) (bv : Value) : ∀ W, w.alloc (.cells #[.int .u8 k, .int .i64 m, .slice ai ni ci, bv] 58) = W → ROB W w.heap.size k m (.slice ai ni ci) bv ∧ Below w.heap.size w W := by
  rintro W rfl
  exact ⟨ROB.new w k m _ bv, (Below.refl _ _).alloc (Nat.le_refl _) _⟩

section
variable {w : World} {F : Nat → Prop} {o : Nat} {k m : Int} {pl : Bool} {s : List It × List Bool}
set_option maxRecDepth 100000 in
set_option maxHeartbeats 16000000 in
theorem alikeOther (h : Ob w F o k m pl s) (hk : ¬ k = 3) (most : Int) (ai : Option Addr) (ni ci : Nat) (bv : Value) (hi : ItemsAt w ai ni s.1) (hni : ni ≤ 1000) :
    Calls Tryz.prog 28 #[.pointer (some ⟨o, 0, none⟩), .agg #[.int .u8 k, .int .i64 most, .slice ai ni ci, bv]] w fun e w' => e = .returned (.bool true) ∧ Below w.heap.size w w' := by
  have hk3 : (k == (3 : Int)) = false := beq_eq_false_iff_ne.2 hk
  have HH := Lib.hid h
  have HI0 := Lib.hid hi
  have HK := Lib.hid hk
  clear h hi
  go_enter Tryz.func28, Tryz.ntmps28
  go_upto_region 1 with (fail)
  generalize hW : w.alloc (.cells #[.int .u8 k, .int .i64 most, .slice ai ni ci, bv] 58) = W
  obtain ⟨hR0, hb⟩ := alikeBox w k most ai ni ci bv W hW
  generalize hg0 : w.heap.size = g0 at *
  have HG := Lib.hid hg0
  have HB := Lib.hid hb
  have HGS := Lib.hid (show g0 ≤ W.heap.size by rw [← HG.out]; exact hb.size)
  have HS := Lib.hid (And.intro hR0 (And.intro (HH.out.fresh (by rw [HG.out]; exact hb)) (HI0.out.keep (by rw [HG.out]; exact hb))))
  clear hW hR0 hb hg0
  have q0 := HS.out.1.c0
  go_wp2_with fail
  go_loopw [5] (fun i wr => i = .int .i64 0 ∧ Hid (W = wr)) (fun _ _ => 0)
  case atStart => exact ⟨rfl, Lib.hid rfl⟩
  case round =>
    obtain ⟨rfl, hw⟩ := hrel
    obtain rfl : W = wr := hw.out
    clear hw
    obtain ⟨hR, hP, hI⟩ := HS.out
    have HRB := Lib.hid (fun V (hV : Below W.heap.size W V) => And.intro ((hR.keep hV).c0) ((hR.keep hV).c2))
    have c0 := hR.c0
    have c2 := hR.c2
    have HP := Lib.hid hP
    have HI := Lib.hid hI
    have HBD := Lib.hid (show Below W.heap.size W W.drew from (Below.refl _ _).drew)
    have C1 := Lib.hid (obItems (hP.fresh HBD.out))
    have hln : s.1.length = ni := hI.1
    have HVL := Lib.hid (show (vals s.1).length ≤ 1000 by rw [vals_length]; omega)
    clear hP hI hR
    go_wp2
    go_region_held3 (fun w' => w'.cell? ⟨g0, 0, none⟩ = some (.int .u8 k) ∧ w'.cell? ⟨g0, 2, none⟩ = some (.slice ai ni ci)) (first | exact ⟨c0, c2⟩ | exact ⟨x0, x1⟩ | exact ⟨y0, y1⟩ | exact ⟨z0, z1⟩ | exact ⟨u0, u1⟩ | exact ⟨v0, v1⟩) (first
      | ((with_reducible refine C5.out.mono ?_); rintro e w8 ⟨a8, c8, rfl, r8, _, _, b8⟩; have B8 := Lib.hid (B7.out.trans (b8.mono B7.out.size)); obtain ⟨v0, v1⟩ := HRB.out _ B8.out; clear r8 b8)
      | ((with_reducible refine C4.out.mono ?_); rintro e w7 ⟨rfl, rfl⟩; have B7 := Lib.hid B6.out; obtain ⟨u0, u1⟩ := HRB.out _ B7.out; have C5 := Lib.hid (obLevel (HP.out.fresh B7.out) 1); rw [if_neg HK.out] at C5)
      | ((with_reducible refine C3.out.mono ?_); rintro e w6 ⟨rfl, b6⟩; have B6 := Lib.hid (B5.out.trans (b6.mono B5.out.size)); obtain ⟨z0, z1⟩ := HRB.out _ B6.out; have C4 := Lib.hid (obLen (HP.out.fresh B6.out)); clear b6)
      | ((with_reducible refine C2.out.mono ?_); rintro e w5 ⟨a5, c5, rfl, r5, _, _, b5⟩; have B5 := Lib.hid (B4.out.trans (b5.mono B4.out.size)); obtain ⟨y0, y1⟩ := HRB.out _ B5.out; have C3 := Lib.hid (sameEq w5 a4 a5 (vals s.1).length c4 c5 (vals s.1) (R4.out.keep b5) r5 HVL.out); clear r5 b5)
      | ((with_reducible refine C1.out.mono ?_); rintro e w4 ⟨a4, c4, rfl, r4, _, _, b4⟩; have B4 := Lib.hid (HBD.out.trans (b4.mono HBD.out.size)); have R4 := Lib.hid r4; obtain ⟨x0, x1⟩ := HRB.out _ B4.out; have C2 := Lib.hid (refVals w4 ai ni ci s.1 (HI.out.keep B4.out) hni); clear r4 b4))
    go_wp2
    go_ret
    exact ⟨rfl, by rw [HG.out]; exact HB.out.trans (B8.out.mono HGS.out)⟩

set_option maxRecDepth 100000 in
set_option maxHeartbeats 16000000 in
theorem alikeHeap (h : Ob w F o 3 m pl s) (most : Int) (ai : Option Addr) (ni ci : Nat) (bv : Value) (hi : ItemsAt w ai ni s.1) (hni : ni ≤ 1000) :
    Calls Tryz.prog 28 #[.pointer (some ⟨o, 0, none⟩), .agg #[.int .u8 3, .int .i64 most, .slice ai ni ci, bv]] w fun e w' => e = .returned (.bool true) ∧ Below w.heap.size w w' := by
  have HH := Lib.hid h
  have HI0 := Lib.hid hi
  clear h hi
  go_enter Tryz.func28, Tryz.ntmps28
  go_upto_region 1 with (fail)
  generalize hW : w.alloc (.cells #[.int .u8 3, .int .i64 most, .slice ai ni ci, bv] 58) = W
  obtain ⟨hR0, hb⟩ := alikeBox w 3 most ai ni ci bv W hW
  generalize hg0 : w.heap.size = g0 at *
  have HG := Lib.hid hg0
  have HB := Lib.hid hb
  have HGS := Lib.hid (show g0 ≤ W.heap.size by rw [← HG.out]; exact hb.size)
  have HS := Lib.hid (And.intro hR0 (And.intro (HH.out.fresh (by rw [HG.out]; exact hb)) (HI0.out.keep (by rw [HG.out]; exact hb))))
  clear hW hR0 hb hg0
  go_wp2_with fail
  go_loopw [5] (fun i wr => ∃ j : Nat, j ≤ 10 ∧ i = .int .i64 j ∧ Hid (Below W.heap.size W wr)) (fun i _ => 10 - (intOf i).toNat)
  case atStart => exact ⟨0, by omega, rfl, Lib.hid (Below.refl _ _)⟩
  case round =>
    obtain ⟨j, hj, rfl, hw⟩ := hrel
    have hR := HS.out.1.keep hw.out
    have hP := HS.out.2.1.fresh hw.out
    have hI := HS.out.2.2.keep hw.out
    by_cases hlt : j ≤ 9
    · have i9 : (j : Int) ≤ 9 := by omega
      have HRB := Lib.hid (fun V (hV : Below wr.heap.size wr V) => (hR.keep hV).c2)
      have q0 := hR.c0
      have c2 := hR.c2
      have HP := Lib.hid hP
      have HI := Lib.hid hI
      have HBD := Lib.hid (show Below wr.heap.size wr wr.drew from (Below.refl _ _).drew)
      have C1 := Lib.hid (show Calls Tryz.prog 23 #[.pointer (some ⟨o, 0, none⟩), .int .i64 j] wr.drew (ToldR wr.drew (lvlOf s.1 j)) from by have h := obLevel (hP.fresh HBD.out) j; rw [if_pos rfl] at h; exact h)
      have HVL := Lib.hid (show (lvlOf s.1 j).length ≤ 1000 from by have h := lvls_len (k := 3) (j := j) (show s.1.length ≤ 1000 by have := hI.1; omega); unfold lvls at h; rw [if_pos rfl] at h; exact h)
      clear hP hI hR
      go_wp2
      go_region_held3 (fun w' => w'.cell? ⟨g0, 2, none⟩ = some (.slice ai ni ci)) (first | exact c2 | exact x1 | exact y1 | exact z1) (first
        | ((with_reducible refine C3.out.mono ?_); rintro e w6 ⟨rfl, b6⟩; have B6 := Lib.hid (B5.out.trans (b6.mono B5.out.size)); have z1 := HRB.out _ B6.out; clear b6)
        | ((with_reducible refine C2.out.mono ?_); rintro e w5 ⟨a5, c5, rfl, r5, _, _, b5⟩; have B5 := Lib.hid (B4.out.trans (b5.mono B4.out.size)); have y1 := HRB.out _ B5.out; have C3 := Lib.hid (sameEq w5 a4 a5 (lvlOf s.1 j).length c4 c5 (lvlOf s.1 j) (R4.out.keep b5) r5 HVL.out); clear r5 b5)
        | ((with_reducible refine C1.out.mono ?_); rintro e w4 ⟨a4, c4, rfl, r4, _, _, b4⟩; have B4 := Lib.hid (HBD.out.trans (b4.mono HBD.out.size)); have R4 := Lib.hid r4; have x1 := HRB.out _ B4.out; have C2 := Lib.hid (refLevel w4 ai ni ci s.1 j (HI.out.keep B4.out) hni); clear r4 b4))
      have HNx := Lib.hid (show Below W.heap.size W w6 from hw.out.trans (B6.out.mono hw.out.size))
      clear C1 C2 C3 B4 B5 B6 R4 c2 x1 y1 z1 HRB HP HI HVL HBD
      go_wp2
      go_roundw
      case rel => exact ⟨j + 1, by omega, by go_num, HNx⟩
      case measure => simp [intOf]; omega
    · obtain rfl : j = 10 := by omega
      clear hlt
      have q0 := hR.c0
      have HRB := Lib.hid (fun V (hV : Below wr.heap.size wr V) => And.intro ((hR.keep hV).c0) ((hR.keep hV).c2))
      have c0 := hR.c0
      have c2 := hR.c2
      have HP := Lib.hid hP
      have HI := Lib.hid hI
      have HBD := Lib.hid (show Below wr.heap.size wr wr.drew from (Below.refl _ _).drew)
      have C1 := Lib.hid (obItems (hP.fresh HBD.out))
      have hln : s.1.length = ni := hI.1
      have HVL := Lib.hid (show (vals s.1).length ≤ 1000 by rw [vals_length]; omega)
      clear hP hI hR
      have HBW := hw
      go_wp2
      first
        | (go_region_with (first
            | ((with_reducible refine C4.out.mono ?_); rintro e w7 ⟨rfl, rfl⟩; have B7 := Lib.hid B6.out; obtain ⟨u0, u1⟩ := HRB.out _ B7.out)
            | ((with_reducible refine C3.out.mono ?_); rintro e w6 ⟨rfl, b6⟩; have B6 := Lib.hid (B5.out.trans (b6.mono B5.out.size)); obtain ⟨z0, z1⟩ := HRB.out _ B6.out; have C4 := Lib.hid (obLen (HP.out.fresh B6.out)); clear b6)
            | ((with_reducible refine C2.out.mono ?_); rintro e w5 ⟨a5, c5, rfl, r5, _, _, b5⟩; have B5 := Lib.hid (B4.out.trans (b5.mono B4.out.size)); obtain ⟨y0, y1⟩ := HRB.out _ B5.out; have C3 := Lib.hid (sameEq w5 a4 a5 (vals s.1).length c4 c5 (vals s.1) (R4.out.keep b5) r5 HVL.out); clear r5 b5)
            | ((with_reducible refine C1.out.mono ?_); rintro e w4 ⟨a4, c4, rfl, r4, _, _, b4⟩; have B4 := Lib.hid (HBD.out.trans (b4.mono HBD.out.size)); have R4 := Lib.hid r4; obtain ⟨x0, x1⟩ := HRB.out _ B4.out; have C2 := Lib.hid (refVals w4 ai ni ci s.1 (HI.out.keep B4.out) hni); clear r4 b4)))
        | fail "the last region"
      all_goals
        have HNx := Lib.hid (show Below W.heap.size W w6 from HBW.out.trans (B7.out.mono HBW.out.size))
        go_wp2
        go_ret
        exact ⟨rfl, by rw [HG.out]; exact HB.out.trans (HNx.out.mono HGS.out)⟩

theorem alikeAny (h : Ob w F o k m pl s) (most : Int) (ai : Option Addr) (ni ci : Nat) (bv : Value) (hi : ItemsAt w ai ni s.1) (hni : ni ≤ 1000) :
    Calls Tryz.prog 28 #[.pointer (some ⟨o, 0, none⟩), .agg #[.int .u8 k, .int .i64 most, .slice ai ni ci, bv]] w fun e w' => e = .returned (.bool true) ∧ Below w.heap.size w w' := by
  by_cases hk : k = 3
  · subst hk; exact alikeHeap h most ai ni ci bv hi hni
  · exact alikeOther h hk most ai ni ci bv hi hni
end

end Go.Proofs.YtniefplgijpckaaGreat
namespace Go.Proofs.YtniefplgijpckaaGreat
open Go.RowKit Go.Lib

/-- The document's object beside two objects. -/
structure Doc (w : World) (F G : Nat → Prop) (g : Nat) (k m : Int) (s : List It × List Bool) (ai : Option Addr) (ci : Nat) (bv : Value) (a : World) : Prop where
  b : ROB a g k m (.slice ai s.1.length ci) bv
  i : ItemsAt a ai s.1.length s.1
  le : s.1.length ≤ ci
  t : Tail a bv (s.2.map Value.bool)
  pg : w.heap.size ≤ g ∧ ¬ F g ∧ ¬ G g
  pi : 0 < s.1.length → ∀ y, ai = some y → y.block ≠ g ∧ ¬ F y.block ∧ ¬ G y.block
  pv : ∀ x, bv.ownBlock = some x → x ≠ g ∧ ¬ F x ∧ ¬ G x

section
variable {w a b : World} {F G F' : Nat → Prop} {g o q : Nat} {k m k2 m2 most : Int} {pl pl2 : Bool} {s t s2 : List It × List Bool} {ai : Option Addr} {ci : Nat} {bv : Value}
theorem Ob.bits (h : Ob w F o k m pl s) : s.2.length ≤ 20000 := by obtain ⟨H, G, p, q, _, _, c, _⟩ := h; exact c.len
theorem Doc.new (hs : w.heap.size ≤ a.heap.size) (hF : ∀ x, F x → x < a.heap.size) (hG : ∀ x, G x → x < a.heap.size) : Doc w F G a.heap.size k m ([], []) none 0 (.slice none 0 0) (a.alloc (.cells #[.int .u8 k, .int .i64 m, .slice none 0 0, .slice none 0 0] 58)) :=
  ⟨ROB.new a k m _ _, ItemsAt.nil _ _, Nat.le_refl _, Tail.nothing, ⟨hs, fun h => Nat.lt_irrefl _ (hF _ h), fun h => Nat.lt_irrefl _ (hG _ h)⟩, fun h => absurd h (by simp), fun x hx => by simp [Value.ownBlock] at hx⟩
theorem Doc.swap (h : Doc w F G g k m s ai ci bv a) : Doc w G F g k m s ai ci bv a := ⟨h.b, h.i, h.le, h.t, ⟨h.pg.1, h.pg.2.2, h.pg.2.1⟩, fun hp y hy => ⟨(h.pi hp y hy).1, (h.pi hp y hy).2.2, (h.pi hp y hy).2.1⟩, fun x hx => ⟨(h.pv x hx).1, (h.pv x hx).2.2, (h.pv x hx).2.1⟩⟩
theorem Doc.fresh (h : Doc w F G g k m s ai ci bv a) (hb : Below a.heap.size a b) : Doc w F G g k m s ai ci bv b := ⟨h.b.keep hb, h.i.keep hb, h.le, tail_below h.t hb, h.pg, h.pi, h.pv⟩
theorem Doc.nextC (h : Doc w F G g k m s ai ci bv a) (wr : Wrote F a b) (l : Later F F' a) : Doc w F' G g k m s ai ci bv b :=
  ⟨h.b.off h.pg.2.1 wr, h.i.off (fun hp y hy => (h.pi hp y hy).2.1) wr, h.le, h.t.keep wr.size (fun x hx => wr.block x (h.t.lt hx) (h.pv x hx).2.1), ⟨h.pg.1, l.not h.pg.2.1 h.b.lt, h.pg.2.2⟩, fun hp y hy => ⟨(h.pi hp y hy).1, l.not (h.pi hp y hy).2.1 (h.i.lt hp y hy), (h.pi hp y hy).2.2⟩, fun x hx => ⟨(h.pv x hx).1, l.not (h.pv x hx).2.1 (h.t.lt hx), (h.pv x hx).2.2⟩⟩
theorem Doc.nextD (h : Doc w F G g k m s ai ci bv a) (wr : Wrote G a b) (l : Later G F' a) : Doc w F F' g k m s ai ci bv b := (h.swap.nextC wr l).swap
/-- Another value in the box. -/
theorem Doc.store (h : Doc w F G g k m s ai ci bv a) (hF : ∀ x, F x → x < a.heap.size) (hG : ∀ x, G x → x < a.heap.size) {w2 : World} {a2 : Option Addr} {c2 : Nat} {v2 : Value} (hb : Below a.heap.size a w2) (i2 : ItemsAt w2 a2 s2.1.length s2.1) (l2 : s2.1.length ≤ c2) (t2 : Tail w2 v2 (s2.2.map Value.bool))
    (p2 : 0 < s2.1.length → ∀ y, a2 = some y → a.heap.size ≤ y.block ∨ (0 < s.1.length ∧ ∃ y0, ai = some y0 ∧ y.block = y0.block)) (q2 : ∀ x, v2.ownBlock = some x → a.heap.size ≤ x ∨ bv.ownBlock = some x) :
    Doc w F G g k m s2 a2 c2 v2 ((((w2.setCell ⟨g, 0, none⟩ (.int .u8 k)).setCell ⟨g, 1, none⟩ (.int .i64 m)).setCell ⟨g, 2, none⟩ (.slice a2 s2.1.length c2)).setCell ⟨g, 3, none⟩ v2) := by
  have hw := wrote4 w2 g (.int .u8 k) (.int .i64 m) (.slice a2 s2.1.length c2) v2
  have hg := h.b.lt
  have p : 0 < s2.1.length → ∀ y, a2 = some y → y.block ≠ g ∧ ¬ F y.block ∧ ¬ G y.block := fun hp y hy => by
    rcases p2 hp y hy with h1 | ⟨h1, y0, h2, h3⟩
    · exact ⟨by omega, fun e => by have := hF _ e; omega, fun e => by have := hG _ e; omega⟩
    · rw [h3]; exact h.pi h1 y0 h2
  have q : ∀ x, v2.ownBlock = some x → x ≠ g ∧ ¬ F x ∧ ¬ G x := fun x hx => by
    rcases q2 x hx with h1 | h1
    · exact ⟨by omega, fun e => by have := hF _ e; omega, fun e => by have := hG _ e; omega⟩
    · exact h.pv x h1
  exact ⟨(h.b.keep hb).all _ _, i2.off (fun hp y hy => (p hp y hy).1) hw, l2, t2.keep hw.size (fun x hx => hw.block x (t2.lt hx) (q x hx).1), h.pg, p, q⟩
/-- The box behind the document's Feed. -/
theorem Doc.feed (h : Doc w F G g k m s ai ci bv a) (hF : ∀ x, F x → x < a.heap.size) (hG : ∀ x, G x → x < a.heap.size) {w2 : World} {v2 : Value} {bs : List Bool} (hf : Fedd a bs v2 w2) :
    Doc w F G g k m (s.1, bs) ai ci v2 ((((w2.setCell ⟨g, 0, none⟩ (.int .u8 k)).setCell ⟨g, 1, none⟩ (.int .i64 m)).setCell ⟨g, 2, none⟩ (.slice ai s.1.length ci)).setCell ⟨g, 3, none⟩ v2) :=
  h.store (s2 := (s.1, bs)) hF hG hf.2.1 (h.i.keep hf.2.1) h.le hf.1 (fun hp y hy => .inr ⟨hp, y, hy, rfl⟩) (fun x hx => .inl (hf.2.2 x hx))
theorem ROB.five {iv : Value} (h : ROB a g k m iv bv) : a.cell? ⟨g, 0, none⟩ = some (.int .u8 k) ∧ a.cell? ⟨g, 1, none⟩ = some (.int .i64 m) ∧ a.cell? ⟨g, 2, none⟩ = some iv ∧ a.cell? ⟨g, 3, none⟩ = some bv ∧ ∀ j, a.frozen? ⟨g, j, none⟩ = false := ⟨h.c0, h.c1, h.c2, h.c3, h.f⟩
/-- Behind a store into a box beside both. -/
theorem Two.box (h : Two w F G o q k m k2 m2 pl pl2 s t a) (hw : Wrote (fun x => x = g) a b) (hg : w.heap.size ≤ g ∧ ¬ F g ∧ ¬ G g) : Two w F G o q k m k2 m2 pl pl2 s t b := by
  have hG : ∀ x, (fun x => x = g) x → w.heap.size ≤ x := fun x e => by have e' : x = g := e; rw [e']; exact hg.1
  exact ⟨h.c.beside hw (fun x hx e => by have e' : x = g := e; rw [e'] at hx; exact hg.2.1 hx) hG, h.d.beside hw (fun x hx e => by have e' : x = g := e; rw [e'] at hx; exact hg.2.2 hx) hG, h.ap⟩
end

theorem refODo (w : World) (k most : Int) (ai : Option Addr) (ni ci : Nat) (bv : Value) (s : List It × List Bool) (ao : Option Addr) (n cap : Nat) (os : List (Int × Int)) (hi : ItemsAt w ai ni s.1) (hci : ni ≤ ci) (hni : ni ≤ 1000) (hv : Tail w bv (s.2.map Value.bool)) (hbs : s.2.length ≤ 20000) (ho : OpsAt w ao n os) (hok : ∀ o ∈ os, OpOk o) (hn : n ≤ 1000) (hlm : (s.1.length : Int) ≤ mostOf most) :
    Calls Tryz.prog 27 #[.agg #[.int .u8 k, .int .i64 most, .slice ai ni ci, bv], .slice ao n cap] w (RODo w ai bv.ownBlock k most (mostOf most) s os) := by
  by_cases h3 : k = 3
  · subst h3; exact refODo3 w most ai ni ci bv s ao n cap os hi hci hni hv hbs ho hn hlm
  · exact refODoOther w k most ai ni ci bv s ao n cap os h3 hi hni hv ho hok hn hlm

/-- What the document's Do left, its value apart. -/
structure Res12 (w : World) (ai : Option Addr) (vb : Option Nat) (s s' : List It × List Bool) (rs : List (Int × Int)) (b : Nat) (a : Option Addr) (c : Nat) (va : Option Addr) (vc : Nat) (W : World) : Prop where
  i : ItemsAt W a s'.1.length s'.1
  le : s'.1.length ≤ c
  p : ∀ y, a = some y → 0 < s'.1.length → w.heap.size ≤ y.block ∨ (0 < s.1.length ∧ ∃ y0, ai = some y0 ∧ y.block = y0.block)
  t : Tail W (.slice va s'.2.length vc) (s'.2.map Value.bool)
  v : (Value.slice va s'.2.length vc).ownBlock = vb
  r : RRow W b rs
  hb : w.heap.size ≤ b
  be : Below w.heap.size w W

section
variable {w W w2 w3 : World} {ai : Option Addr} {vb : Option Nat} {s s' : List It × List Bool} {rs os : List (Int × Int)} {b x c vc n : Nat} {a va : Option Addr} {k most m : Int} {e : Ending}
theorem RODo.shape (h : RODo w ai vb k most m s os e w2) (hs : objS k m s os = s') (hr : batT k m (vals s.1) os = rs) (hn : os.length = n) :
    ∃ a c va vc b, e = .returned (.tuple #[.agg #[.int .u8 k, .int .i64 most, .slice a s'.1.length c, .slice va s'.2.length vc], .slice (some ⟨b, 0, none⟩) n n]) ∧ Res12 w ai vb s s' rs b a c va vc w2 := by
  obtain ⟨a, c, v, b, he, i2, ic, ip, v2, vo, t2, hbb, b2⟩ := h
  rw [hs] at he i2 ic ip v2
  rw [hr] at t2
  rw [hn] at he
  obtain ⟨va, vc, rfl⟩ := tail_shape v2
  rw [List.length_map] at v2 vo he
  exact ⟨a, c, va, vc, b, he, i2, ic, ip, v2, vo, t2, hbb, b2⟩
theorem Res12.keep (h : Res12 w ai vb s s' rs b a c va vc w2) (hb : Below w2.heap.size w2 w3) : Res12 w ai vb s s' rs b a c va vc w3 := ⟨h.i.keep hb, h.le, h.p, tail_below h.t hb, h.v, h.r.below hb, h.hb, h.be.trans (hb.mono h.be.size)⟩
theorem Res12.from (hb : Below w.heap.size w W) (h : Res12 W ai vb s s' rs b a c va vc w2) : Res12 w ai vb s s' rs b a c va vc w2 := ⟨h.i, h.le, fun y hy hp => (h.p y hy hp).imp (fun h => Nat.le_trans hb.size h) id, h.t, h.v, h.r, Nat.le_trans hb.size h.hb, hb.trans (h.be.mono hb.size)⟩
/-- First the call, then the box. -/
theorem Res12.late (hb : Below w.heap.size w W) (h : Res12 W ai vb s s' rs b a c va vc w2) (k most : Int) :
    ROB (w2.alloc (.cells #[.int .u8 k, .int .i64 most, .slice a s'.1.length c, .slice va s'.2.length vc] 58)) w2.heap.size k most (.slice a s'.1.length c) (.slice va s'.2.length vc) ∧ Res12 w ai vb s s' rs b a c va vc (w2.alloc (.cells #[.int .u8 k, .int .i64 most, .slice a s'.1.length c, .slice va s'.2.length vc] 58)) :=
  ⟨ROB.new w2 k most _ _, (h.from hb).keep ((Below.refl _ _).alloc (Nat.le_refl _) _)⟩
theorem ROB.four (o : Obj) (ho : o = .cells #[.int .u8 0, .int .i64 0, .slice none 0 0, .slice none 0 0] 58 (0, 0)) (hW : (w.alloc o).drew = W) (hb : Below W.heap.size W w3) : ROB w3 w.heap.size 0 0 (.slice none 0 0) (.slice none 0 0) := by
  subst ho hW
  exact (show ROB (w.alloc _).drew w.heap.size 0 0 (.slice none 0 0) (.slice none 0 0) from ROB.new w 0 0 _ _).keep hb
/-- First the box. -/
theorem Res12.soon (o : Obj) (ho : o = .cells #[.int .u8 0, .int .i64 0, .slice none 0 0, .slice none 0 0] 58 (0, 0)) (hW : (w.alloc o).drew = W) (h : Res12 W ai vb s s' rs b a c va vc w2) (hai : 0 < s.1.length → ∀ y, ai = some y → y.block < w.heap.size) (hvb : ∀ y, vb = some y → y < w.heap.size) (k most : Int) :
    ROB ((((w2.setCell ⟨w.heap.size, 0, none⟩ (.int .u8 k)).setCell ⟨w.heap.size, 1, none⟩ (.int .i64 most)).setCell ⟨w.heap.size, 2, none⟩ (.slice a s'.1.length c)).setCell ⟨w.heap.size, 3, none⟩ (.slice va s'.2.length vc)) w.heap.size k most (.slice a s'.1.length c) (.slice va s'.2.length vc) ∧
      Res12 w ai vb s s' rs b a c va vc ((((w2.setCell ⟨w.heap.size, 0, none⟩ (.int .u8 k)).setCell ⟨w.heap.size, 1, none⟩ (.int .i64 most)).setCell ⟨w.heap.size, 2, none⟩ (.slice a s'.1.length c)).setCell ⟨w.heap.size, 3, none⟩ (.slice va s'.2.length vc)) := by
  have h0 := ROB.four o ho hW h.be
  have sz : W.heap.size = w.heap.size + 1 := by rw [← hW]; show (w.alloc _).heap.size = _; simp
  have hb : Below w.heap.size w W := by rw [← hW]; exact ((Below.refl _ _).alloc (Nat.le_refl _) _).drew
  have hw := wrote4 w2 w.heap.size (.int .u8 k) (.int .i64 most) (.slice a s'.1.length c) (.slice va s'.2.length vc)
  have hf := h.from hb
  refine ⟨h0.all _ _, h.i.off (fun hp y hy e => ?_) hw, h.le, hf.p, h.t.keep hw.size (fun y hy => hw.block y (h.t.lt hy) (fun e => ?_)), h.v, row_kept h.r (F := fun y => y = w.heap.size) (fun e => ?_) hw, hf.hb, hf.be.trans (hw.below (Nat.le_trans hb.size (Nat.le_trans (Nat.le_refl _) h.be.size)) (fun y e => Nat.le_of_eq (Eq.symm e)))⟩
  · have e' : y.block = w.heap.size := e
    rcases h.p y hy hp with h1 | ⟨h1, y0, h2, h3⟩
    · omega
    · have := hai h1 y0 h2; omega
  · have e' : y = w.heap.size := e
    rw [h.v] at hy
    have := hvb y hy
    omega
  · have e' : b = w.heap.size := e
    have := h.hb
    omega
end

end Go.Proofs.YtniefplgijpckaaGreat
