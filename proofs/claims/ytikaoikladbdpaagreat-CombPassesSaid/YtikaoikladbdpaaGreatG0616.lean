/-
  What past of package skip does: of each level, the last tower that is no greater. Conditions: a list as Bod says, parted at the value; a place that stands, on each level, at a tower of the first part. What put of a place of package skip does: a tower is linked in on each level that it is on. Conditions: a list as Bod says, a place behind its first part, a new tower.
-/
import Derived.Test.YtikaoikladbdpaaGreatG0516
namespace Go.Proofs.YtikaoikladbdpaaGreat
open Go.RowKit Go.Shelf

attribute [local go_sem] Oper.semAt_some

theorem PBox.set8 {W : World} {B : Nat} {g0 : Nat → Nat} (h : PBox W B g0) (g : Nat → Nat) :
    PBox ((((((((W.setCell ⟨B, 0, none⟩ (.pointer (some ⟨g 0, 0, none⟩))).setCell ⟨B, 1, none⟩ (.pointer (some ⟨g 1, 0, none⟩))).setCell ⟨B, 2, none⟩ (.pointer (some ⟨g 2, 0, none⟩))).setCell ⟨B, 3, none⟩ (.pointer (some ⟨g 3, 0, none⟩))).setCell ⟨B, 4, none⟩ (.pointer (some ⟨g 4, 0, none⟩))).setCell ⟨B, 5, none⟩ (.pointer (some ⟨g 5, 0, none⟩))).setCell ⟨B, 6, none⟩ (.pointer (some ⟨g 6, 0, none⟩))).setCell ⟨B, 7, none⟩ (.pointer (some ⟨g 7, 0, none⟩))) B g := by
  have := set_block (set_block (set_block (set_block (set_block (set_block (set_block (set_block h 0 (.pointer (some ⟨g 0, 0, none⟩))) 1 (.pointer (some ⟨g 1, 0, none⟩))) 2 (.pointer (some ⟨g 2, 0, none⟩))) 3 (.pointer (some ⟨g 3, 0, none⟩))) 4 (.pointer (some ⟨g 4, 0, none⟩))) 5 (.pointer (some ⟨g 5, 0, none⟩))) 6 (.pointer (some ⟨g 6, 0, none⟩))) 7 (.pointer (some ⟨g 7, 0, none⟩))
  unfold PBox
  simpa using this

theorem wrote8 {F : Nat → Prop} {w W : World} {B : Nat} (h : Wrote F w W) (hB : w.heap.size ≤ B ∨ F B) (v0 v1 v2 v3 v4 v5 v6 v7 : Value) :
    Wrote F w ((((((((W.setCell ⟨B, 0, none⟩ v0).setCell ⟨B, 1, none⟩ v1).setCell ⟨B, 2, none⟩ v2).setCell ⟨B, 3, none⟩ v3).setCell ⟨B, 4, none⟩ v4).setCell ⟨B, 5, none⟩ v5).setCell ⟨B, 6, none⟩ v6).setCell ⟨B, 7, none⟩ v7) :=
  (((((((h.setCell hB _).setCell hB _).setCell hB _).setCell hB _).setCell hB _).setCell hB _).setCell hB _).setCell hB _

theorem keepsFrom8 {n B : Nat} {w W : World} (h : KeepsFrom n w W) (v0 v1 v2 v3 v4 v5 v6 v7 : Value) :
    KeepsFrom n w ((((((((W.setCell ⟨B, 0, none⟩ v0).setCell ⟨B, 1, none⟩ v1).setCell ⟨B, 2, none⟩ v2).setCell ⟨B, 3, none⟩ v3).setCell ⟨B, 4, none⟩ v4).setCell ⟨B, 5, none⟩ v5).setCell ⟨B, 6, none⟩ v6).setCell ⟨B, 7, none⟩ v7) :=
  (((((((h.trans ((KeepsOthers.setCell _ _ _).from n)).trans ((KeepsOthers.setCell _ _ _).from n)).trans ((KeepsOthers.setCell _ _ _).from n)).trans ((KeepsOthers.setCell _ _ _).from n)).trans ((KeepsOthers.setCell _ _ _).from n)).trans ((KeepsOthers.setCell _ _ _).from n)).trans ((KeepsOthers.setCell _ _ _).from n)).trans ((KeepsOthers.setCell _ _ _).from n)

structure PS (w : World) (v : Int) (ds : List Deferred) (n₁ : Nat) (W : World) (g : Nat → Nat) : Prop where
  be : Below w.heap.size w W
  pb : PBox W w.heap.size g
  vb : Boxed W (w.heap.size + 1) 21 (.int .i32 v)
  rb : RBox0 W (w.heap.size + 1 + 1)
  mks : Marks w.heap.size W ds
  lt : ∀ D, ({ target := .collected D, args := #[] } : Deferred) ∈ ds → D < n₁

section
variable {w W W' : World} {v : Int} {ds : List Deferred} {n₁ : Nat} {g g' : Nat → Nat}

theorem PS.keep (h : PS w v ds n₁ W g) (hw : Wrote (fun b => b = w.heap.size) W W') (hp : PBox W' w.heap.size g') : PS w v ds n₁ W' g' := by
  refine ⟨⟨hw.os.trans h.be.os, hw.tape.trans h.be.tape, hw.output.trans h.be.output, Nat.le_trans h.be.size hw.size, fun k hk => (hw.block k (Nat.lt_of_lt_of_le hk h.be.size) (by omega)).trans (h.be.block k hk)⟩, hp,
    (hw.block _ h.vb.lt (by omega)).trans h.vb, (hw.block _ (lt_of_block h.rb) (by omega)).trans h.rb, h.mks.keep fun D _ hd => ?_, h.lt⟩
  have hD := (Array.getElem?_eq_some_iff.1 hd).1
  refine (hw.block D hD fun e => ?_).trans hd
  have := h.pb
  unfold PBox at this
  rw [← e, hd] at this
  cases this
theorem PS.fresh (h : PS w v ds n₁ W g) (hb : Below W.heap.size W W') : PS w v ds n₁ W' g := h.keep (Wrote.of hb _) (h.pb.below hb)
theorem PS.mono {n₂ : Nat} (h : PS w v ds n₁ W g) (hn : n₁ ≤ n₂) : PS w v ds n₂ W g := ⟨h.be, h.pb, h.vb, h.rb, h.mks, fun D hD => Nat.lt_of_lt_of_le (h.lt D hD) hn⟩
theorem PS.mark {D : Nat} (h : PS w v ds n₁ W g) (hD : n₁ ≤ D) (hw : w.heap.size ≤ D) (hd : W.heap[D]? = some (.deferred (some []))) : PS w v ({ target := .collected D, args := #[] } :: ds) (D + 1) W g :=
  ⟨h.be, h.pb, h.vb, h.rb, ⟨⟨D, rfl, hw, hd, fun e => by have := h.lt D e; omega⟩, h.mks⟩, fun D' hD' => by
    rcases List.mem_cons.1 hD' with e | e
    · injection e with e1 _
      injection e1 with e2
      omega
    · have := h.lt D' e; omega⟩

theorem PS.own (hn : w.heap.size ≤ n₁) (f : Nat → Nat → Nat) : OwnFrom n₁ (fun k W => PS w v ds n₁ W (f k)) := fun k W W' row h hg hr => by
  have hne : ∀ (b : Nat) (o : Obj), W.heap[b]? = some o → o.isCells = true → W'.heap[b]? = W.heap[b]? := fun b o ho hc => hg.block b (Array.getElem?_eq_some_iff.1 ho).1 fun e => by
    obtain ⟨_, o', ho', hc'⟩ := hr b e.symm
    rw [ho] at ho'; cases ho'; rw [hc] at hc'; cases hc'
  refine ⟨ownFrom_below (Nat.le_refl _) hn () W W' row h.be hg hr, (hne _ _ h.pb rfl).trans h.pb, (hne _ _ h.vb rfl).trans h.vb, (hne _ _ h.rb rfl).trans h.rb, h.mks.keep fun D hD hd => (hg.block D (Array.getElem?_eq_some_iff.1 hd).1 fun e => ?_).trans hd, h.lt⟩
  have := (hr D e.symm).1
  have := h.lt D hD
  omega
end

structure PG (p : Nat) (A : List Nd) (i : Nat) (g : Nat → Nat) : Prop where
  low : ∀ j, j < i → g j ∈ p :: lv A j
  high : ∀ j, i ≤ j → j < 8 → g j = pos p A j

def lvLeft (a : Act) (W : World) : Nat :=
  match a.tmps.getD 5 undef with
  | .pointer (some q) => (match W.cell? q with | some v => (intOf v + 1).toNat | none => 0)
  | _ => 0

def gone (g : Nat → Nat) (R : List Nat) (m k : Nat) : Nat → Nat := if k = 0 then g else upd g (R.getD (k - 1) 0) (m + 1)

theorem PG.step {p : Nat} {A : List Nd} {m : Nat} {g : Nat → Nat} (h : PG p A (m + 1) g) {L R : List Nat} (hl : lv A m = L ++ R) (hq : lst p L = g m) (hm : m < 8) : PG p A m (gone g R m R.length) := by
  have hlast : gone g R m R.length m = pos p A m := by
    unfold gone pos
    rw [hl, lst_append, hq]
    cases hR : R.reverse with
    | nil =>
      have : R = [] := by simpa using hR
      subst this
      rfl
    | cons c cs =>
      have : R = cs.reverse ++ [c] := by rw [← List.reverse_reverse R, hR]; simp
      subst this
      rw [if_neg (by simp), lst_append]
      simp [upd, lst]
  have hin : ∀ j, j < m → gone g R m R.length j ∈ p :: lv A j := by
    intro j hj
    unfold gone
    split
    · exact h.low j (by omega)
    · rename_i h0
      rw [show upd g (R.getD (R.length - 1) 0) (m + 1) j = R.getD (R.length - 1) 0 by simp [upd]; omega]
      have hmem : R.getD (R.length - 1) 0 ∈ lv A m := by
        rw [hl]
        refine List.mem_append_right _ ?_
        simp [List.getD, show R.length - 1 < R.length by omega]
      obtain ⟨n, hn, h1, h2⟩ := lv_mem hmem
      rw [← h1]
      exact List.mem_cons_of_mem _ (lv_of hn (by omega))
  refine ⟨hin, fun j h1 h2 => ?_⟩
  by_cases e : j = m
  · subst e; exact hlast
  · have : gone g R m R.length j = g j := by
      unfold gone
      split
      · rfl
      · simp [upd]; omega
    rw [this]
    exact h.high j (by omega) h2

structure PastAt (w : World) (p : Nat) (A : List Nd) (v : Int) (i b : Nat) (g : Nat → Nat) (ds : List Deferred) (W : World) : Prop where
  ps : PS w v ds W.heap.size W g
  at_ : Boxed W b 3 (.int .i64 ((i : Int) - 1))
  lo : w.heap.size + 1 + 1 < b
  pg : PG p A i g

theorem PBox.congr {W : World} {B : Nat} {g g' : Nat → Nat} (h : PBox W B g) (e : ∀ j, j < 8 → g j = g' j) : PBox W B g' := by
  unfold PBox at *
  rw [← e 0 (by omega), ← e 1 (by omega), ← e 2 (by omega), ← e 3 (by omega), ← e 4 (by omega), ← e 5 (by omega), ← e 6 (by omega), ← e 7 (by omega)]
  exact h

theorem pastStart (w : World) (p : Nat) (A : List Nd) (v : Int) (g : Nat → Nat) (hg : PG p A 8 g) :
    PastAt w p A v 8 (w.heap.size + 1 + 1 + 1) g [] ((((w.alloc (.cells #[.pointer (some ⟨g 0, 0, none⟩), .pointer (some ⟨g 1, 0, none⟩), .pointer (some ⟨g 2, 0, none⟩), .pointer (some ⟨g 3, 0, none⟩), .pointer (some ⟨g 4, 0, none⟩), .pointer (some ⟨g 5, 0, none⟩), .pointer (some ⟨g 6, 0, none⟩), .pointer (some ⟨g 7, 0, none⟩)] 289)).alloc (.cells #[.int .i32 v] 21)).alloc (.cells #[.pointer none, .pointer none, .pointer none, .pointer none, .pointer none, .pointer none, .pointer none, .pointer none] 289)).alloc (.cells #[.int .i64 7] 3)) := by
  have b0 := PBox.new w g
  generalize hw1 : w.alloc (.cells #[.pointer (some ⟨g 0, 0, none⟩), .pointer (some ⟨g 1, 0, none⟩), .pointer (some ⟨g 2, 0, none⟩), .pointer (some ⟨g 3, 0, none⟩), .pointer (some ⟨g 4, 0, none⟩), .pointer (some ⟨g 5, 0, none⟩), .pointer (some ⟨g 6, 0, none⟩), .pointer (some ⟨g 7, 0, none⟩)] 289) = w1 at *
  have s1 : w1.heap.size = w.heap.size + 1 := by rw [← hw1]; simp
  have be1 : Below w.heap.size w w1 := by rw [← hw1]; exact (Below.refl _ w).alloc (Nat.le_refl _) _
  have v0 := Boxed.new w1 21 (.int .i32 v)
  rw [s1] at v0
  generalize hw2 : w1.alloc (.cells #[.int .i32 v] 21) = w2 at *
  have s2 : w2.heap.size = w.heap.size + 1 + 1 := by rw [← hw2]; simp [s1]
  have be2 : Below w1.heap.size w1 w2 := by rw [← hw2]; exact (Below.refl _ w1).alloc (Nat.le_refl _) _
  have r0 : RBox0 (w2.alloc (.cells #[.pointer none, .pointer none, .pointer none, .pointer none, .pointer none, .pointer none, .pointer none, .pointer none] 289)) (w.heap.size + 1 + 1) := by
    rw [← s2]; exact heap_alloc_new w2 _
  generalize hw3 : w2.alloc (.cells #[.pointer none, .pointer none, .pointer none, .pointer none, .pointer none, .pointer none, .pointer none, .pointer none] 289) = w3 at *
  have s3 : w3.heap.size = w.heap.size + 1 + 1 + 1 := by rw [← hw3]; simp [s2]
  have be3 : Below w2.heap.size w2 w3 := by rw [← hw3]; exact (Below.refl _ w2).alloc (Nat.le_refl _) _
  have a0 := Boxed.new w3 3 (.int .i64 7)
  rw [s3] at a0
  have be4 : Below w3.heap.size w3 (w3.alloc (.cells #[.int .i64 7] 3)) := (Below.refl _ w3).alloc (Nat.le_refl _) _
  generalize w3.alloc (.cells #[.int .i64 7] 3) = w4 at *
  have be14 : Below w1.heap.size w1 w4 := (be2.trans (be3.mono (by omega))).trans (be4.mono (by omega))
  have be24 : Below w2.heap.size w2 w4 := be3.trans (be4.mono (by omega))
  exact ⟨⟨be1.trans (be14.mono (by omega)), b0.below be14, (be24.block _ (by omega)).trans v0, (be4.block _ (by omega)).trans r0, trivial, fun _ h => by simp at h⟩, a0, by omega, hg⟩

def LevAt (w : World) (v : Int) (ds : List Deferred) (n₁ b bh q m : Nat) (g : Nat → Nat) (R : List Nat) (k : Nat) (W : World) : Prop :=
  k ≤ R.length ∧ PS w v ds n₁ W (gone g R m k) ∧ Boxed W b 3 (.int .i64 m) ∧ Boxed W bh 163 (.pointer (some ⟨q, 0, none⟩)) ∧ Boxed W (bh + 1) 3 (.int .i64 m)

theorem LevAt.own {w : World} {v : Int} {ds : List Deferred} {n₁ b bh q m : Nat} {g : Nat → Nat} {R : List Nat} (hn : w.heap.size ≤ n₁) : OwnFrom n₁ (LevAt w v ds n₁ b bh q m g R) :=
  OwnFrom.and (ownFrom_pure _ _) (OwnFrom.and (PS.own hn _) (OwnFrom.and (Own.from (boxed_own _ _ _) _) (OwnFrom.and (Own.from (boxed_own _ _ _) _) (Own.from (boxed_own _ _ _) _))))

theorem behindBoxes (W : World) (q m : Nat) :
    Below W.heap.size W ((W.alloc (.cells #[.pointer (some ⟨q, 0, none⟩)] 163)).alloc (.cells #[.int .i64 m] 3)).drew ∧
    Boxed ((W.alloc (.cells #[.pointer (some ⟨q, 0, none⟩)] 163)).alloc (.cells #[.int .i64 m] 3)).drew W.heap.size 163 (.pointer (some ⟨q, 0, none⟩)) ∧
    Boxed ((W.alloc (.cells #[.pointer (some ⟨q, 0, none⟩)] 163)).alloc (.cells #[.int .i64 m] 3)).drew (W.heap.size + 1) 3 (.int .i64 m) := by
  have b0 := (Boxed.new W 163 (.pointer (some ⟨q, 0, none⟩))).alloc (.cells #[.int .i64 m] 3)
  have b1 := Boxed.new (W.alloc (.cells #[.pointer (some ⟨q, 0, none⟩)] 163)) 3 (.int .i64 m)
  rw [World.size_alloc] at b1
  exact ⟨(((Below.refl _ W).alloc (Nat.le_refl _) _).alloc (by simp) _).drew, b0, b1⟩

theorem boxed_keep {W W' : World} {b : Nat} {t : TypeId} {x : Value} (h : Boxed W b t x) (hb : Below W.heap.size W W') : Boxed W' b t x := (hb.block b h.lt).trans h

theorem keeps_below {w w' : World} (hb : Below w.heap.size w w') : KeepsOthers w w' := ⟨hb.size, fun k _ hk _ => (hb.block k (Array.getElem?_eq_some_iff.1 hk).1).trans hk⟩

theorem levChain {w : World} {p : Nat} {many most : Int} {A B : List Nd} {m : Nat} {L1 R1 : List Nat} {q : Nat} (h : Bod w p many most (A ++ B)) (hm : m < 8) (hL : lv A m = L1 ++ R1) (hq : lst p L1 = q) :
    Bod w p many most (A ++ B) ∧ Ch w m q (R1 ++ lv B m) := by
  have := h.ch m hm
  rw [lv_append, hL, List.append_assoc] at this
  rw [← hq]
  exact ⟨h, this.split⟩

theorem levNodup {w : World} {p : Nat} {many most : Int} {A B : List Nd} {m : Nat} {L1 R1 : List Nat} (h : Bod w p many most (A ++ B)) (hL : lv A m = L1 ++ R1) : (R1 ++ lv B m).Nodup := by
  have := Nodup.level h.nd m
  rw [lv_append, hL, List.append_assoc, List.nodup_cons] at this
  exact (List.nodup_append.1 this.2).2.1

theorem levRange {w W : World} {p : Nat} {many most : Int} {A B : List Nd} {m k n₁ b bh q : Nat} {v : Int} {g : Nat → Nat} {ds : List Deferred} {L1 R1 : List Nat} (h : Bod w p many most (A ++ B)) (hm : m < 8) (hL : lv A m = L1 ++ R1) (hq : lst p L1 = q) (hl : LevAt w v ds n₁ b bh q m g R1 k W) :
    BehindAt W bh q m (R1 ++ lv B m) := ⟨hl.2.2.2.1.cell, hl.2.2.2.2.cell, (levChain (h.below hl.2.1.be) hm hL hq).2⟩

theorem levStart {w W W1 : World} {p : Nat} {A : List Nd} {m b q : Nat} {v : Int} {g : Nat → Nat} {ds : List Deferred} (h : PastAt w p A v (m + 1) b g ds W)
    (hb : Below W.heap.size W W1 ∧ Boxed W1 W.heap.size 163 (.pointer (some ⟨q, 0, none⟩)) ∧ Boxed W1 (W.heap.size + 1) 3 (.int .i64 m)) (R1 : List Nat) : LevAt w v ds W1.heap.size b W.heap.size q m g R1 0 W1 :=
  ⟨Nat.zero_le _, (h.ps.fresh hb.1).mono hb.1.size, by
    have := boxed_keep h.at_ hb.1
    rwa [show ((m + 1 : Nat) : Int) - 1 = (m : Int) by omega] at this, hb.2.1, hb.2.2⟩

theorem gone_succ (g : Nat → Nat) (R : List Nat) (m k : Nat) : gone g R m (k + 1) = upd (gone g R m k) (R.getD k 0) (m + 1) := by
  funext j
  unfold gone upd
  simp only [Nat.add_eq_zero_iff, Nat.succ_ne_self, and_false, if_false, Nat.add_sub_cancel]
  by_cases h : j < m + 1
  · simp [h]
  · by_cases h0 : k = 0 <;> simp [h, h0]

theorem levNext {w W w3 : World} {v : Int} {ds : List Deferred} {n₁ b bh q m k x : Nat} {g : Nat → Nat} {R : List Nat} (h : PS w v ds n₁ W (gone g R m k))
    (hb : Boxed W b 3 (.int .i64 m) ∧ Boxed W bh 163 (.pointer (some ⟨q, 0, none⟩)) ∧ Boxed W (bh + 1) 3 (.int .i64 m)) (hlo : w.heap.size + 1 + 1 < b) (hbh : w.heap.size < bh)
    (hb3 : Below W.heap.size W w3) (h3 : PS w v ds n₁ w3 (gone g R m k)) (hk : k < R.length) (hx : gone g R m (k + 1) = upd (gone g R m k) x (m + 1)) :
    KeepsFrom n₁ W ((((((((w3.setCell ⟨w.heap.size, 0, none⟩ (.pointer (some ⟨upd (gone g R m k) x (m + 1) 0, 0, none⟩))).setCell ⟨w.heap.size, 1, none⟩ (.pointer (some ⟨upd (gone g R m k) x (m + 1) 1, 0, none⟩))).setCell ⟨w.heap.size, 2, none⟩ (.pointer (some ⟨upd (gone g R m k) x (m + 1) 2, 0, none⟩))).setCell ⟨w.heap.size, 3, none⟩ (.pointer (some ⟨upd (gone g R m k) x (m + 1) 3, 0, none⟩))).setCell ⟨w.heap.size, 4, none⟩ (.pointer (some ⟨upd (gone g R m k) x (m + 1) 4, 0, none⟩))).setCell ⟨w.heap.size, 5, none⟩ (.pointer (some ⟨upd (gone g R m k) x (m + 1) 5, 0, none⟩))).setCell ⟨w.heap.size, 6, none⟩ (.pointer (some ⟨upd (gone g R m k) x (m + 1) 6, 0, none⟩))).setCell ⟨w.heap.size, 7, none⟩ (.pointer (some ⟨upd (gone g R m k) x (m + 1) 7, 0, none⟩))) ∧
    LevAt w v ds n₁ b bh q m g R (k + 1) ((((((((w3.setCell ⟨w.heap.size, 0, none⟩ (.pointer (some ⟨upd (gone g R m k) x (m + 1) 0, 0, none⟩))).setCell ⟨w.heap.size, 1, none⟩ (.pointer (some ⟨upd (gone g R m k) x (m + 1) 1, 0, none⟩))).setCell ⟨w.heap.size, 2, none⟩ (.pointer (some ⟨upd (gone g R m k) x (m + 1) 2, 0, none⟩))).setCell ⟨w.heap.size, 3, none⟩ (.pointer (some ⟨upd (gone g R m k) x (m + 1) 3, 0, none⟩))).setCell ⟨w.heap.size, 4, none⟩ (.pointer (some ⟨upd (gone g R m k) x (m + 1) 4, 0, none⟩))).setCell ⟨w.heap.size, 5, none⟩ (.pointer (some ⟨upd (gone g R m k) x (m + 1) 5, 0, none⟩))).setCell ⟨w.heap.size, 6, none⟩ (.pointer (some ⟨upd (gone g R m k) x (m + 1) 6, 0, none⟩))).setCell ⟨w.heap.size, 7, none⟩ (.pointer (some ⟨upd (gone g R m k) x (m + 1) 7, 0, none⟩))) := by
  have hw := wrote8 (F := fun b => b = w.heap.size) (Wrote.refl _ w3) (B := w.heap.size) (.inr rfl) (.pointer (some ⟨upd (gone g R m k) x (m + 1) 0, 0, none⟩)) (.pointer (some ⟨upd (gone g R m k) x (m + 1) 1, 0, none⟩)) (.pointer (some ⟨upd (gone g R m k) x (m + 1) 2, 0, none⟩)) (.pointer (some ⟨upd (gone g R m k) x (m + 1) 3, 0, none⟩)) (.pointer (some ⟨upd (gone g R m k) x (m + 1) 4, 0, none⟩)) (.pointer (some ⟨upd (gone g R m k) x (m + 1) 5, 0, none⟩)) (.pointer (some ⟨upd (gone g R m k) x (m + 1) 6, 0, none⟩)) (.pointer (some ⟨upd (gone g R m k) x (m + 1) 7, 0, none⟩))
  have hp := h3.pb.set8 (upd (gone g R m k) x (m + 1))
  refine ⟨keepsFrom8 ((keeps_below hb3).from _) _ _ _ _ _ _ _ _, hk, ?_⟩
  rw [hx]
  have e1 := boxed_keep hb.1 hb3
  have e2 := boxed_keep hb.2.1 hb3
  have e3 := boxed_keep hb.2.2 hb3
  refine ⟨h3.keep hw hp, (hw.block _ e1.lt (by omega)).trans e1, (hw.block _ e2.lt (by omega)).trans e2, (hw.block _ e3.lt (by omega)).trans e3⟩

theorem levStay {w W : World} {v : Int} {ds : List Deferred} {n₁ b bh q m k : Nat} {g : Nat → Nat} {R : List Nat} (h : PS w v ds n₁ W (gone g R m k))
    (hb : Boxed W b 3 (.int .i64 m) ∧ Boxed W bh 163 (.pointer (some ⟨q, 0, none⟩)) ∧ Boxed W (bh + 1) 3 (.int .i64 m)) (hk : k = R.length) : LevAt w v ds n₁ b bh q m g R k W.drew :=
  ⟨Nat.le_of_eq hk, h.fresh (Below.refl _ W).drew, hb⟩

theorem levDone {w W2 : World} {p : Nat} {A : List Nd} {v : Int} {ds : List Deferred} {n₁ b bh q m D : Nat} {g : Nat → Nat} {L1 R1 : List Nat} (h : LevAt w v ds n₁ b bh q m g R1 R1.length W2) (hd : W2.heap[D]? = some (.deferred (some []))) (hD : n₁ ≤ D) (hn : w.heap.size ≤ n₁)
    (hg : PG p A (m + 1) g) (hL : lv A m = L1 ++ R1) (hq : lst p L1 = g m) (hm : m < 8) :
    PastAt w p A v m W2.heap.size (gone g R1 m R1.length) ({ target := .collected D, args := #[] } :: ds) (W2.alloc (.cells #[.int .i64 ((m : Int) - 1)] 3)) := by
  have hps := (h.2.1.mark hD (Nat.le_trans hn hD) hd).fresh ((Below.refl _ W2).alloc (Nat.le_refl _) (.cells #[.int .i64 ((m : Int) - 1)] 3))
  have hlt := (Array.getElem?_eq_some_iff.1 hd).1
  refine ⟨hps.mono (by simp; omega), Boxed.new _ _ _, ?_, hg.step hL hq hm⟩
  exact lt_of_block h.2.1.rb

theorem lvLeft_at {a : Act} {W : World} {b : Nat} {m : Int} (h1 : a.tmps.getD 5 undef = .pointer (some ⟨b, 0, none⟩)) (h2 : W.cell? ⟨b, 0, none⟩ = some (.int .i64 m)) : lvLeft a W = (m + 1).toNat := by
  unfold lvLeft
  rw [h1]
  simp [h2, intOf]

theorem RBox0.set8 {W : World} {B : Nat} (h : RBox0 W B) (g : Nat → Nat) :
    PBox ((((((((W.setCell ⟨B, 0, none⟩ (.pointer (some ⟨g 0, 0, none⟩))).setCell ⟨B, 1, none⟩ (.pointer (some ⟨g 1, 0, none⟩))).setCell ⟨B, 2, none⟩ (.pointer (some ⟨g 2, 0, none⟩))).setCell ⟨B, 3, none⟩ (.pointer (some ⟨g 3, 0, none⟩))).setCell ⟨B, 4, none⟩ (.pointer (some ⟨g 4, 0, none⟩))).setCell ⟨B, 5, none⟩ (.pointer (some ⟨g 5, 0, none⟩))).setCell ⟨B, 6, none⟩ (.pointer (some ⟨g 6, 0, none⟩))).setCell ⟨B, 7, none⟩ (.pointer (some ⟨g 7, 0, none⟩))) B g := by
  have := set_block (set_block (set_block (set_block (set_block (set_block (set_block (set_block h 0 (.pointer (some ⟨g 0, 0, none⟩))) 1 (.pointer (some ⟨g 1, 0, none⟩))) 2 (.pointer (some ⟨g 2, 0, none⟩))) 3 (.pointer (some ⟨g 3, 0, none⟩))) 4 (.pointer (some ⟨g 4, 0, none⟩))) 5 (.pointer (some ⟨g 5, 0, none⟩))) 6 (.pointer (some ⟨g 6, 0, none⟩))) 7 (.pointer (some ⟨g 7, 0, none⟩))
  unfold PBox
  simpa using this

theorem pastBox {w W w' : World} (h : RBox0 W (w.heap.size + 1 + 1)) (g : Nat → Nat) (hw : Turned w.heap.size ((((((((W.setCell ⟨w.heap.size + 1 + 1, 0, none⟩ (.pointer (some ⟨g 0, 0, none⟩))).setCell ⟨w.heap.size + 1 + 1, 1, none⟩ (.pointer (some ⟨g 1, 0, none⟩))).setCell ⟨w.heap.size + 1 + 1, 2, none⟩ (.pointer (some ⟨g 2, 0, none⟩))).setCell ⟨w.heap.size + 1 + 1, 3, none⟩ (.pointer (some ⟨g 3, 0, none⟩))).setCell ⟨w.heap.size + 1 + 1, 4, none⟩ (.pointer (some ⟨g 4, 0, none⟩))).setCell ⟨w.heap.size + 1 + 1, 5, none⟩ (.pointer (some ⟨g 5, 0, none⟩))).setCell ⟨w.heap.size + 1 + 1, 6, none⟩ (.pointer (some ⟨g 6, 0, none⟩))).setCell ⟨w.heap.size + 1 + 1, 7, none⟩ (.pointer (some ⟨g 7, 0, none⟩))) w') : PBox w' (w.heap.size + 1 + 1) g := hw.cells _ _ (h.set8 g) rfl

theorem pastMarks {w W : World} {g : Nat → Nat} {ds : List Deferred} (_hp : PBox W w.heap.size g) (h : RBox0 W (w.heap.size + 1 + 1)) (hm : Marks w.heap.size W ds) : Marks w.heap.size ((((((((W.setCell ⟨w.heap.size + 1 + 1, 0, none⟩ (.pointer (some ⟨g 0, 0, none⟩))).setCell ⟨w.heap.size + 1 + 1, 1, none⟩ (.pointer (some ⟨g 1, 0, none⟩))).setCell ⟨w.heap.size + 1 + 1, 2, none⟩ (.pointer (some ⟨g 2, 0, none⟩))).setCell ⟨w.heap.size + 1 + 1, 3, none⟩ (.pointer (some ⟨g 3, 0, none⟩))).setCell ⟨w.heap.size + 1 + 1, 4, none⟩ (.pointer (some ⟨g 4, 0, none⟩))).setCell ⟨w.heap.size + 1 + 1, 5, none⟩ (.pointer (some ⟨g 5, 0, none⟩))).setCell ⟨w.heap.size + 1 + 1, 6, none⟩ (.pointer (some ⟨g 6, 0, none⟩))).setCell ⟨w.heap.size + 1 + 1, 7, none⟩ (.pointer (some ⟨g 7, 0, none⟩))) ds := by
  have hw := wrote8 (F := fun b => b = w.heap.size + 1 + 1) (Wrote.refl _ W) (B := w.heap.size + 1 + 1) (.inr rfl) (.pointer (some ⟨g 0, 0, none⟩)) (.pointer (some ⟨g 1, 0, none⟩)) (.pointer (some ⟨g 2, 0, none⟩)) (.pointer (some ⟨g 3, 0, none⟩)) (.pointer (some ⟨g 4, 0, none⟩)) (.pointer (some ⟨g 5, 0, none⟩)) (.pointer (some ⟨g 6, 0, none⟩)) (.pointer (some ⟨g 7, 0, none⟩))
  refine hm.keep fun D _ hd => (hw.block D (Array.getElem?_eq_some_iff.1 hd).1 fun e => ?_).trans hd
  unfold RBox0 at h
  rw [← e, hd] at h
  cases h

set_option maxRecDepth 100000 in
set_option maxHeartbeats 4000000 in
theorem pastAny {w : World} {p : Nat} {many most : Int} {A B : List Nd} (h : Bod w p many most (A ++ B)) (v : Int) (hA : ∀ n ∈ A, n.v ≤ v) (hB : ∀ n ∈ B, v < n.v) (g : Nat → Nat) (hg : PG p A 8 g) :
    Calls Tryz.prog 239 #[(.agg #[.pointer (some ⟨g 0, 0, none⟩), .pointer (some ⟨g 1, 0, none⟩), .pointer (some ⟨g 2, 0, none⟩), .pointer (some ⟨g 3, 0, none⟩), .pointer (some ⟨g 4, 0, none⟩), .pointer (some ⟨g 5, 0, none⟩), .pointer (some ⟨g 6, 0, none⟩), .pointer (some ⟨g 7, 0, none⟩)]), .int .i32 v] w fun e w' => e = .returned (.agg #[.pointer (some ⟨(pos p A) 0, 0, none⟩), .pointer (some ⟨(pos p A) 1, 0, none⟩), .pointer (some ⟨(pos p A) 2, 0, none⟩), .pointer (some ⟨(pos p A) 3, 0, none⟩), .pointer (some ⟨(pos p A) 4, 0, none⟩), .pointer (some ⟨(pos p A) 5, 0, none⟩), .pointer (some ⟨(pos p A) 6, 0, none⟩), .pointer (some ⟨(pos p A) 7, 0, none⟩)]) ∧ Below w.heap.size w w' := by
  have HBod := Lib.hid h
  have HA := Lib.hid hA
  have HB := Lib.hid hB
  have HG := Lib.hid hg
  clear h hA hB hg
  refine (callsIn_wide (n := 3)).1 ?_
  refine callsIn_of_wp_marks Tryz.func239 rfl trivial ?_ rfl
  simp only [Tryz.ntmps239, List.size_toArray, List.length_cons, List.length_nil, Nat.reduceAdd, Nat.reduceSub, Array.replicate_succ, Array.replicate_zero, List.push_toArray, List.append_toArray, List.nil_append, List.cons_append]
  gi_wp2
  have HP0 := Lib.hid (pastStart w p A v g HG.out)
  generalize ((((w.alloc (.cells #[.pointer (some ⟨g 0, 0, none⟩), .pointer (some ⟨g 1, 0, none⟩), .pointer (some ⟨g 2, 0, none⟩), .pointer (some ⟨g 3, 0, none⟩), .pointer (some ⟨g 4, 0, none⟩), .pointer (some ⟨g 5, 0, none⟩), .pointer (some ⟨g 6, 0, none⟩), .pointer (some ⟨g 7, 0, none⟩)] 289)).alloc (.cells #[.int .i32 v] 21)).alloc (.cells #[.pointer none, .pointer none, .pointer none, .pointer none, .pointer none, .pointer none, .pointer none, .pointer none] 289)).alloc (.cells #[.int .i64 7] 3)) = W0 at *
  refine wpIn_loop (fun a' W => ∃ (i b5 : Nat) (gg : Nat → Nat) (ds : List Deferred) (u6 u7 u8 u9 u10 u11 u12 u13 u14 u15 u16 u17 u18 u19 u20 u21 u22 u23 u24 u25 u26 u27 u28 : Value), (i ≤ 8 ∧ PastAt w p A v i b5 gg ds W) ∧ a' = { tmps := #[(.agg #[.pointer (some ⟨g 0, 0, none⟩), .pointer (some ⟨g 1, 0, none⟩), .pointer (some ⟨g 2, 0, none⟩), .pointer (some ⟨g 3, 0, none⟩), .pointer (some ⟨g 4, 0, none⟩), .pointer (some ⟨g 5, 0, none⟩), .pointer (some ⟨g 6, 0, none⟩), .pointer (some ⟨g 7, 0, none⟩)]), .int .i32 v, .pointer (some ⟨w.heap.size, 0, none⟩), .pointer (some ⟨w.heap.size + 1, 0, none⟩), .pointer (some ⟨w.heap.size + 1 + 1, 0, none⟩), .pointer (some ⟨b5, 0, none⟩), u6, u7, u8, u9, u10, u11, u12, u13, u14, u15, u16, u17, u18, u19, u20, u21, u22, u23, u24, u25, u26, u27, u28, undef], defers := ds }) lvLeft ?start ?round
  case start =>
    exact ⟨8, w.heap.size + 1 + 1 + 1, g, [], _, _, _, _, _, _, _, _, _, _, _, _, _, _, _, _, _, _, _, _, _, _, _, ⟨Nat.le_refl _, HP0.out⟩, rfl⟩
  case round =>
    rintro a W ⟨i, b5, gg, ds, u6, u7, u8, u9, u10, u11, u12, u13, u14, u15, u16, u17, u18, u19, u20, u21, u22, u23, u24, u25, u26, u27, u28, ⟨hi, hP⟩, rfl⟩
    clear HP0
    have HP := Lib.hid hP
    have c5 := hP.at_.cell
    cases i with
    | zero =>
      rw [show ((0 : Nat) : Int) - 1 = -1 from rfl] at c5
      have HP0 := Lib.hid (And.intro (hP.ps.pb.congr fun j hj => hP.pg.high j (Nat.zero_le _) hj) (And.intro hP.ps.rb (And.intro hP.ps.mks hP.ps.be)))
      have p0 := HP0.out.1.cell 0 (by omega)
      have r0 := HP0.out.2.1.cell 0
      have f0 := HP0.out.2.1.f 0
      have p1 := HP0.out.1.cell 1 (by omega)
      have r1 := HP0.out.2.1.cell 1
      have f1 := HP0.out.2.1.f 1
      have p2 := HP0.out.1.cell 2 (by omega)
      have r2 := HP0.out.2.1.cell 2
      have f2 := HP0.out.2.1.f 2
      have p3 := HP0.out.1.cell 3 (by omega)
      have r3 := HP0.out.2.1.cell 3
      have f3 := HP0.out.2.1.f 3
      have p4 := HP0.out.1.cell 4 (by omega)
      have r4 := HP0.out.2.1.cell 4
      have f4 := HP0.out.2.1.f 4
      have p5 := HP0.out.1.cell 5 (by omega)
      have r5 := HP0.out.2.1.cell 5
      have f5 := HP0.out.2.1.f 5
      have p6 := HP0.out.1.cell 6 (by omega)
      have r6 := HP0.out.2.1.cell 6
      have f6 := HP0.out.2.1.f 6
      have p7 := HP0.out.1.cell 7 (by omega)
      have r7 := HP0.out.2.1.cell 7
      have f7 := HP0.out.2.1.f 7
      clear hP HP
      gi_wp2
      refine Marks.leaves (n₀ := w.heap.size) (pastMarks HP0.out.1 HP0.out.2.1 HP0.out.2.2.1) fun w' hw' => ?_
      have hpb := pastBox HP0.out.2.1 (pos p A) hw'
      have q0 := hpb.cell 0 (by omega)
      have q1 := hpb.cell 1 (by omega)
      have q2 := hpb.cell 2 (by omega)
      have q3 := hpb.cell 3 (by omega)
      have q4 := hpb.cell 4 (by omega)
      have q5 := hpb.cell 5 (by omega)
      have q6 := hpb.cell 6 (by omega)
      have q7 := hpb.cell 7 (by omega)
      exact ⟨(.agg #[.pointer (some ⟨(pos p A) 0, 0, none⟩), .pointer (some ⟨(pos p A) 1, 0, none⟩), .pointer (some ⟨(pos p A) 2, 0, none⟩), .pointer (some ⟨(pos p A) 3, 0, none⟩), .pointer (some ⟨(pos p A) 4, 0, none⟩), .pointer (some ⟨(pos p A) 5, 0, none⟩), .pointer (some ⟨(pos p A) 6, 0, none⟩), .pointer (some ⟨(pos p A) 7, 0, none⟩)]), by simp [results, Tryz.f239, go_sem, q0, q1, q2, q3, q4, q5, q6, q7], rfl, (set8 HP0.out.2.2.2 (by omega) _ _ _ _ _ _ _ _).trans hw'.below⟩
    | succ m =>
      have m8 : m < 8 := by omega
      rw [show ((m + 1 : Nat) : Int) - 1 = (m : Int) by omega] at c5
      have cq := hP.ps.pb.cell m m8
      have im0 : (0 : Int) ≤ (m : Int) := by omega
      have im8 : (m : Int) < 8 := by omega
      clear hP
      gi_wp2
      refine wpIn_wide.2 ?_
      go_region_held3 (fun w' => w'.cell? ⟨b5, 0, none⟩ = some (.int .i64 m) ∧ w'.cell? ⟨w.heap.size, m, none⟩ = some (.pointer (some ⟨gg m, 0, none⟩))) (first | exact ⟨c5, cq⟩ | go_keep) (first | (go_at_call 208; refine (behindAny _ _ _).mono ?_; rintro e w2 ⟨rfl, rfl⟩))
      gi_wp2
      have HW1 := Lib.hid (behindBoxes W (gg m) m)
      generalize ((W.alloc (.cells #[.pointer (some ⟨gg m, 0, none⟩)] 163)).alloc (.cells #[.int .i64 m] 3)).drew = W1 at *
      clear c5 cq
      obtain ⟨L1, R1, hL, hq⟩ := lst_split (HP.out.pg.low m (by omega))
      have HL := Lib.hid hL
      have HQ := Lib.hid hq
      clear hL hq
      have HI0 := Lib.hid (levStart HP.out HW1.out R1)
      have hsz : w.heap.size ≤ W1.heap.size := Nat.le_trans HP.out.ps.be.size HW1.out.1.size
      refine wpIn_rangeStops rfl (by omega) (gf := 209) (lb := #[.pointer (some ⟨W.heap.size, 0, none⟩), .pointer (some ⟨W.heap.size + 1, 0, none⟩)]) rfl trivial (enters_of Tryz.func209 (by kernel_rfl) rfl) (towV (R1 ++ lv B m)) (fun _ => rfl) (R1 ++ lv B m).length 2
        (LevAt w v ds W1.heap.size b5 W.heap.size (gg m) m gg R1) (fun k W' => k = R1.length ∧ LevAt w v ds W1.heap.size b5 W.heap.size (gg m) m gg R1 k W')
        (behindSeq (3 - 1) m8 (levNodup HBod.out HL.out) _ (fun k W' h => levRange HBod.out m8 HL.out HQ.out h)) (LevAt.own hsz) (OwnFrom.and (ownFrom_pure _ _) (LevAt.own hsz)) HI0.out
        (fun k => { tmps := #[(.agg #[.pointer (some ⟨g 0, 0, none⟩), .pointer (some ⟨g 1, 0, none⟩), .pointer (some ⟨g 2, 0, none⟩), .pointer (some ⟨g 3, 0, none⟩), .pointer (some ⟨g 4, 0, none⟩), .pointer (some ⟨g 5, 0, none⟩), .pointer (some ⟨g 6, 0, none⟩), .pointer (some ⟨g 7, 0, none⟩)]), .int .i32 v, .pointer (some ⟨w.heap.size, 0, none⟩), .pointer (some ⟨w.heap.size + 1, 0, none⟩), .pointer (some ⟨w.heap.size + 1 + 1, 0, none⟩), .pointer (some ⟨b5, 0, none⟩), .pointer (some ⟨(R1 ++ lv B m).getD k 0, 0, none⟩), .int .i64 m, .bool true, u9, u10, .int .i64 m, .pointer (some ⟨w.heap.size, m, none⟩), .pointer (some ⟨gg m, 0, none⟩), .int .i64 m, .func (.func 209) #[] #[.pointer (some ⟨W.heap.size, 0, none⟩), .pointer (some ⟨W.heap.size + 1, 0, none⟩)], .pointer (some ⟨(R1 ++ lv B m).getD k 0, 0, none⟩), u17, u18, u19, u20, u21, u22, u23, u24, u25, u26, u27, u28, undef], defers := [] }) ?assign ?body ?done ?stop
      case assign =>
        intro l k W' K hK
        simp only [towV]
        gi_wp2
        exact hK
      case body =>
        rintro l k W' hI hlt
        obtain ⟨hk, hps, hb5, hbh, hbj⟩ := hI
        clear HI0
        have HBo := Lib.hid (And.intro hb5 (And.intro hbh hbj))
        have hmx : Tryz.prog.follows .mixedOrders = true := by kernel_rfl
        have HPS := Lib.hid hps
        have cv := hps.vb.cell
        have cm := hb5.cell
        clear hb5 hbh hbj
        by_cases hin : k < R1.length
        · obtain ⟨n, hn, hnb, hnm⟩ := lv_mem (ns := A) (j := m) (c := R1.getD k 0) (by rw [HL.out]; refine List.mem_append_right _ ?_; simp [List.getD, hin])
          have hx : (R1 ++ lv B m).getD k 0 = R1.getD k 0 := by simp [List.getD, List.getElem?_append_left hin]
          have cx := ((HBod.out.below hps.be).tow n (by simp [hn])).c0
          rw [hnb, ← hx] at cx
          have hle : ¬ v < n.v := by have := HA.out n hn; omega
          have HK := Lib.hid (show gone gg R1 m (k + 1) = upd (gone gg R1 m k) ((R1 ++ lv B m).getD k 0) (m + 1) by rw [hx]; exact gone_succ gg R1 m k)
          generalize (R1 ++ lv B m).getD k 0 = x at *
          generalize n.v = y at *
          have p0 := hps.pb.cell 0 (by omega)
          have p1 := hps.pb.cell 1 (by omega)
          have p2 := hps.pb.cell 2 (by omega)
          have p3 := hps.pb.cell 3 (by omega)
          have p4 := hps.pb.cell 4 (by omega)
          have p5 := hps.pb.cell 5 (by omega)
          have p6 := hps.pb.cell 6 (by omega)
          have p7 := hps.pb.cell 7 (by omega)
          have C := reachAny W'.drew (gone gg R1 m k) x (m + 1) (by omega)
          rw [show ((m + 1 : Nat) : Int) = (m : Int) + 1 from by omega] at C
          clear hps hn hnb hnm hx
          gi_wp2
          refine wpIn_region_round (S := fun w' => w'.cell? ⟨x, 0, none⟩ = some (.int .i32 y) ∧ w'.cell? ⟨w.heap.size + 1, 0, none⟩ = some (.int .i32 v)) hmx (fun ⟨_, _, h⟩ => h) (by rfl) ⟨cx, cv⟩ (fun hS => ?_)
          refine wpAnyH_take (i := 0) (v := ?_) rfl (by kernel_rfl) (by kernel_rfl) (by kernel_rfl) (fun _ _ _ h => h) (Or.inl ⟨by rfl, ?_⟩) hS ?_
          rotate_left
          · intro w hSw
            try dsimp only at hSw
            go_simp
            try with_reducible rfl
          try simp only [Act.put, List.setIfInBounds_toArray, List.set_cons_zero, List.set_cons_succ]
          refine wpAnyH_take (i := 1) (v := ?_) rfl (by kernel_rfl) (by kernel_rfl) (by kernel_rfl) (fun _ _ _ h => h) (Or.inl ⟨by rfl, ?_⟩) hS ?_
          rotate_left
          · intro w hSw
            try dsimp only at hSw
            go_simp
            try with_reducible rfl
          try simp only [Act.put, List.setIfInBounds_toArray, List.set_cons_zero, List.set_cons_succ]
          refine wpAnyH_take (i := 2) (v := ?_) rfl (by kernel_rfl) (by kernel_rfl) (by kernel_rfl) (fun _ _ _ h => h) (Or.inl ⟨by rfl, ?_⟩) hS ?_
          rotate_left
          · intro w hSw
            try dsimp only at hSw
            go_simp
            try with_reducible rfl
          try simp only [Act.put, List.setIfInBounds_toArray, List.set_cons_zero, List.set_cons_succ]
          refine wpAnyH_take (i := 3) (v := ?_) rfl (by kernel_rfl) (by kernel_rfl) (by kernel_rfl) (fun _ _ _ h => h) (Or.inl ⟨by rfl, ?_⟩) hS ?_
          rotate_left
          · intro w hSw
            try dsimp only at hSw
            go_simp
            try with_reducible rfl
          try simp only [Act.put, List.setIfInBounds_toArray, List.set_cons_zero, List.set_cons_succ]
          refine wpAnyH_take (i := 4) (v := ?_) rfl (by kernel_rfl) (by kernel_rfl) (by kernel_rfl) (fun _ _ _ h => h) (Or.inl ⟨by rfl, ?_⟩) hS ?_
          rotate_left
          · intro w hSw
            try dsimp only at hSw
            go_simp
            try with_reducible rfl
          try simp only [Act.put, List.setIfInBounds_toArray, List.set_cons_zero, List.set_cons_succ]
          refine wpAnyH_take (i := 5) (v := ?_) rfl (by kernel_rfl) (by kernel_rfl) (by kernel_rfl) (fun _ _ _ h => h) (Or.inl ⟨by rfl, ?_⟩) hS ?_
          rotate_left
          · intro w hSw
            try dsimp only at hSw
            go_simp
            try with_reducible rfl
          try simp only [Act.put, List.setIfInBounds_toArray, List.set_cons_zero, List.set_cons_succ]
          refine wpAnyH_done (by kernel_rfl) ?_ _
          gi_wp2_with fail
          refine ⟨trivial, (CallsIn.inRound l (callsIn_wide.2 C)).mono ?_⟩
          clear C hS
          rintro e w3 ⟨rfl, hb3⟩
          have hb3' : Below W'.heap.size W' w3 := (Below.refl _ W').drew.trans hb3
          have hps3 := HPS.out.fresh hb3'
          have HB3 := Lib.hid hb3'
          have r0 := hps3.pb.cell 0 (by omega)
          have f0 := hps3.pb.f 0
          have r1 := hps3.pb.cell 1 (by omega)
          have f1 := hps3.pb.f 1
          have r2 := hps3.pb.cell 2 (by omega)
          have f2 := hps3.pb.f 2
          have r3 := hps3.pb.cell 3 (by omega)
          have f3 := hps3.pb.f 3
          have r4 := hps3.pb.cell 4 (by omega)
          have f4 := hps3.pb.f 4
          have r5 := hps3.pb.cell 5 (by omega)
          have f5 := hps3.pb.f 5
          have r6 := hps3.pb.cell 6 (by omega)
          have f6 := hps3.pb.f 6
          have r7 := hps3.pb.cell 7 (by omega)
          have f7 := hps3.pb.f 7
          have HP3 := Lib.hid hps3
          clear hps3 hb3 hb3' p0 p1 p2 p3 p4 p5 p6 p7 cx cv cm
          gi_wp2
          exact levNext HPS.out HBo.out HP.out.lo (Nat.lt_of_lt_of_le HP.out.lo (Nat.le_of_lt HP.out.at_.lt) |> Nat.lt_of_succ_lt |> Nat.lt_of_succ_lt) HB3.out HP3.out hin HK.out
        · have hk1 : k = R1.length := by omega
          obtain ⟨n, hn, hnb, hnm⟩ := lv_mem (ns := B) (j := m) (c := (R1 ++ lv B m).getD k 0) (by
            subst hk1
            have hl2 : 0 < (lv B m).length := by simp at hlt; omega
            simp [List.getD, hl2])
          have cx := ((HBod.out.below hps.be).tow n (by simp [hn])).c0
          rw [hnb] at cx
          have hgt : v < n.v := HB.out n hn
          generalize (R1 ++ lv B m).getD k 0 = x at *
          generalize n.v = y at *
          have HLe := Lib.hid hk1
          clear hps hn hnb hnm hk1 hk hlt hin
          gi_wp2
          refine wpIn_region_round (S := fun w' => w'.cell? ⟨x, 0, none⟩ = some (.int .i32 y) ∧ w'.cell? ⟨w.heap.size + 1, 0, none⟩ = some (.int .i32 v)) hmx (fun ⟨_, _, h⟩ => h) (by rfl) ⟨cx, cv⟩ (fun hS => ?_)
          refine wpAnyH_take (i := 0) (v := ?_) rfl (by kernel_rfl) (by kernel_rfl) (by kernel_rfl) (fun _ _ _ h => h) (Or.inl ⟨by rfl, ?_⟩) hS ?_
          rotate_left
          · intro w hSw
            try dsimp only at hSw
            go_simp
            try with_reducible rfl
          try simp only [Act.put, List.setIfInBounds_toArray, List.set_cons_zero, List.set_cons_succ]
          refine wpAnyH_take (i := 1) (v := ?_) rfl (by kernel_rfl) (by kernel_rfl) (by kernel_rfl) (fun _ _ _ h => h) (Or.inl ⟨by rfl, ?_⟩) hS ?_
          rotate_left
          · intro w hSw
            try dsimp only at hSw
            go_simp
            try with_reducible rfl
          try simp only [Act.put, List.setIfInBounds_toArray, List.set_cons_zero, List.set_cons_succ]
          refine wpAnyH_take (i := 2) (v := ?_) rfl (by kernel_rfl) (by kernel_rfl) (by kernel_rfl) (fun _ _ _ h => h) (Or.inl ⟨by rfl, ?_⟩) hS ?_
          rotate_left
          · intro w hSw
            try dsimp only at hSw
            go_simp
            try with_reducible rfl
          try simp only [Act.put, List.setIfInBounds_toArray, List.set_cons_zero, List.set_cons_succ]
          refine wpAnyH_take (i := 3) (v := ?_) rfl (by kernel_rfl) (by kernel_rfl) (by kernel_rfl) (fun _ _ _ h => h) (Or.inl ⟨by rfl, ?_⟩) hS ?_
          rotate_left
          · intro w hSw
            try dsimp only at hSw
            go_simp
            try with_reducible rfl
          try simp only [Act.put, List.setIfInBounds_toArray, List.set_cons_zero, List.set_cons_succ]
          refine wpAnyH_take (i := 4) (v := ?_) rfl (by kernel_rfl) (by kernel_rfl) (by kernel_rfl) (fun _ _ _ h => h) (Or.inl ⟨by rfl, ?_⟩) hS ?_
          rotate_left
          · intro w hSw
            try dsimp only at hSw
            go_simp
            try with_reducible rfl
          try simp only [Act.put, List.setIfInBounds_toArray, List.set_cons_zero, List.set_cons_succ]
          refine wpAnyH_take (i := 5) (v := ?_) rfl (by kernel_rfl) (by kernel_rfl) (by kernel_rfl) (fun _ _ _ h => h) (Or.inl ⟨by rfl, ?_⟩) hS ?_
          rotate_left
          · intro w hSw
            try dsimp only at hSw
            go_simp
            try with_reducible rfl
          try simp only [Act.put, List.setIfInBounds_toArray, List.set_cons_zero, List.set_cons_succ]
          refine wpAnyH_done (by kernel_rfl) ?_ _
          gi_wp2
          exact ⟨rfl, (KeepsOthers.drew _).from _, HLe.out, levStay HPS.out HBo.out HLe.out⟩
      case done =>
        rintro D W2 hD hI hK
        have hN : (R1 ++ lv B m).length = R1.length := by have := hI.1; simp only [List.length_append] at this ⊢; omega
        rw [hN] at hI
        have hlv := hI
        clear hI hN
        have HLV := Lib.hid hlv
        have HK := Lib.hid hK
        have HD := Lib.hid hD
        have c5 := hlv.2.2.1.cell
        have c0 := HP.out.at_.cell
        rw [show ((m + 1 : Nat) : Int) - 1 = (m : Int) by omega] at c0
        have hn5 := Boxed.new W2 3 (.int .i64 ((m : Int) - 1))
        have HN := Lib.hid hn5.cell
        clear hlv hK hD HI0 hn5
        gi_wp2
        refine ⟨⟨m, W2.heap.size, gone gg R1 m R1.length, _, _, _, _, _, _, _, _, _, _, _, _, _, _, _, _, _, _, _, _, _, _, _, _, ⟨by omega, levDone HLV.out HK.out HD.out hsz HP.out.pg HL.out HQ.out m8⟩, rfl⟩, ?_⟩
        rw [lvLeft_at (b := W2.heap.size) (m := (m : Int) - 1) rfl HN.out, lvLeft_at (b := b5) rfl c0]
        omega
      case stop =>
        rintro D k W2 hD hk ⟨rfl, hlv⟩ hK
        clear hk
        have HLV := Lib.hid hlv
        have HK := Lib.hid hK
        have HD := Lib.hid hD
        have c5 := hlv.2.2.1.cell
        have c0 := HP.out.at_.cell
        rw [show ((m + 1 : Nat) : Int) - 1 = (m : Int) by omega] at c0
        have hn5 := Boxed.new W2 3 (.int .i64 ((m : Int) - 1))
        have HN := Lib.hid hn5.cell
        clear hlv hK hD HI0 hn5
        gi_wp2
        refine ⟨⟨m, W2.heap.size, gone gg R1 m R1.length, _, _, _, _, _, _, _, _, _, _, _, _, _, _, _, _, _, _, _, _, _, _, _, _, ⟨by omega, levDone HLV.out HK.out HD.out hsz HP.out.pg HL.out HQ.out m8⟩, rfl⟩, ?_⟩
        rw [lvLeft_at (b := W2.heap.size) (m := (m : Int) - 1) rfl HN.out, lvLeft_at (b := b5) rfl c0]
        omega

end Go.Proofs.YtikaoikladbdpaaGreat
namespace Go.Proofs.YtikaoikladbdpaaGreat
open Go.RowKit

def InF (p : Nat) (ns : List Nd) : Nat → Prop := fun b => b ∈ p :: blks ns

theorem nxv_ptr (L : List Nat) : ∃ o, nxv L = .pointer o := by
  cases L with
  | nil => exact ⟨_, rfl⟩
  | cons c cs => exact ⟨_, rfl⟩

structure LinkRel (w : World) (p : Nat) (many most : Int) (A : List Nd) (t : Nd) (B : List Nd) (k : Nat) (W : World) : Prop where
  ln : Lnk W p many most A t B k
  pb : PBox W w.heap.size (pos p A)
  rb : RBox0 W (w.heap.size + 1)
  wr : Wrote (InF p (A ++ t :: B)) w W

section
variable {w W W' : World} {p : Nat} {many most : Int} {A B : List Nd} {t : Nd} {k : Nat}

theorem posIn (p : Nat) (A B : List Nd) (t : Nd) (k : Nat) : pos p A k ∈ p :: blks (A ++ t :: B) := by
  rcases List.mem_cons.1 (pos_mem p A k) with e | e
  · rw [e]; simp
  · refine List.mem_cons_of_mem _ ?_
    rw [blks_append]
    exact List.mem_append_left _ (lv_blks e)

theorem Lnk.lt (h : Lnk W p many most A t B k) : ∀ g, InF p (A ++ t :: B) g → g < W.heap.size := fun g hg => by
  rcases List.mem_cons.1 hg with e | e
  · rw [e]; exact h.hd.lt
  · obtain ⟨n, hn, rfl⟩ := List.mem_map.1 e
    exact (h.tow n hn).lt

theorem Lnk.posF (h : Lnk W p many most A t B k) (i j : Nat) : W.frozen? ⟨pos p A i, j, none⟩ = false := by
  rcases List.mem_cons.1 (pos_mem p A i) with e | e
  · rw [e]; exact h.hd.f j
  · obtain ⟨n, hn, h1, _⟩ := lv_mem e
    rw [← h1]
    exact (h.tow n (by simp [hn])).f j

theorem Lnk.keep (h : Lnk W p many most A t B k) (hb : ∀ g, InF p (A ++ t :: B) g → W'.heap[g]? = W.heap[g]?) : Lnk W' p many most A t B k := by
  refine ⟨h.hd.keep (hb p (by simp [InF])), fun n hn => (h.tow n hn).keep (hb n.b (List.mem_cons_of_mem _ (List.mem_map_of_mem hn))), fun j hj => ?_⟩
  refine (h.ch j hj).keep fun b hb' => World.cell?_of_block (hb b ?_)
  rcases List.mem_cons.1 hb' with e | e
  · simp [InF, e]
  · refine List.mem_cons_of_mem _ ?_
    split at e
    · exact lv_blks e
    · have := lv_blks e
      simp only [blks, List.map_append, List.mem_append, List.map_cons, List.mem_cons] at this ⊢
      rcases this with h1 | h1
      · exact .inl h1
      · exact .inr (.inr h1)

theorem LinkRel.round (h : LinkRel w p many most A t B k W) (hF : ∀ g, InF p (A ++ t :: B) g → g < w.heap.size) (hk : k < 8) (hkt : k < t.h) (hnd : (p :: blks (A ++ t :: B)).Nodup) :
    LinkRel w p many most A t B (k + 1) ((W.setCell ⟨t.b, 2 + k, none⟩ (nxv (lv B k))).setCell ⟨pos p A k, 2 + k, none⟩ (.pointer (some ⟨t.b, 0, none⟩))) := by
  have ht : InF p (A ++ t :: B) t.b := List.mem_cons_of_mem _ (by simp [blks])
  have hp : InF p (A ++ t :: B) (pos p A k) := posIn p A B t k
  have h1 := hF _ ht
  have h2 := hF _ hp
  refine ⟨h.ln.round hk hkt hnd, ?_, ?_, (h.wr.setCell (.inr ht) _).setCell (.inr hp) _⟩
  · exact (Below.heap_setCell _ _ _ _ (by show w.heap.size ≠ pos p A k; omega)).trans ((Below.heap_setCell _ _ _ _ (by show w.heap.size ≠ t.b; omega)).trans h.pb)
  · exact (Below.heap_setCell _ _ _ _ (by show w.heap.size + 1 ≠ pos p A k; omega)).trans ((Below.heap_setCell _ _ _ _ (by show w.heap.size + 1 ≠ t.b; omega)).trans h.rb)
end

theorem linkStart {w : World} {p : Nat} {many most : Int} {A B : List Nd} {t : Nd} (h : Bod w p many most (A ++ B)) (ht : Tow w t) :
    LinkRel w p many most A t B 0 ((w.alloc (.cells #[.pointer (some ⟨(pos p A) 0, 0, none⟩), .pointer (some ⟨(pos p A) 1, 0, none⟩), .pointer (some ⟨(pos p A) 2, 0, none⟩), .pointer (some ⟨(pos p A) 3, 0, none⟩), .pointer (some ⟨(pos p A) 4, 0, none⟩), .pointer (some ⟨(pos p A) 5, 0, none⟩), .pointer (some ⟨(pos p A) 6, 0, none⟩), .pointer (some ⟨(pos p A) 7, 0, none⟩)] 289)).alloc (.cells #[.pointer none, .pointer none, .pointer none, .pointer none, .pointer none, .pointer none, .pointer none, .pointer none] 289)) := by
  have b0 := PBox.new w (pos p A)
  have be1 : Below w.heap.size w (w.alloc (.cells #[.pointer (some ⟨(pos p A) 0, 0, none⟩), .pointer (some ⟨(pos p A) 1, 0, none⟩), .pointer (some ⟨(pos p A) 2, 0, none⟩), .pointer (some ⟨(pos p A) 3, 0, none⟩), .pointer (some ⟨(pos p A) 4, 0, none⟩), .pointer (some ⟨(pos p A) 5, 0, none⟩), .pointer (some ⟨(pos p A) 6, 0, none⟩), .pointer (some ⟨(pos p A) 7, 0, none⟩)] 289)) := (Below.refl _ w).alloc (Nat.le_refl _) _
  generalize hw1 : w.alloc (.cells #[.pointer (some ⟨(pos p A) 0, 0, none⟩), .pointer (some ⟨(pos p A) 1, 0, none⟩), .pointer (some ⟨(pos p A) 2, 0, none⟩), .pointer (some ⟨(pos p A) 3, 0, none⟩), .pointer (some ⟨(pos p A) 4, 0, none⟩), .pointer (some ⟨(pos p A) 5, 0, none⟩), .pointer (some ⟨(pos p A) 6, 0, none⟩), .pointer (some ⟨(pos p A) 7, 0, none⟩)] 289) = w1 at *
  have s1 : w1.heap.size = w.heap.size + 1 := by rw [← hw1]; simp
  have r0 : RBox0 (w1.alloc (.cells #[.pointer none, .pointer none, .pointer none, .pointer none, .pointer none, .pointer none, .pointer none, .pointer none] 289)) (w.heap.size + 1) := by
    rw [← s1]; exact heap_alloc_new w1 _
  have be2 : Below w1.heap.size w1 (w1.alloc (.cells #[.pointer none, .pointer none, .pointer none, .pointer none, .pointer none, .pointer none, .pointer none, .pointer none] 289)) := (Below.refl _ w1).alloc (Nat.le_refl _) _
  have be := be1.trans (be2.mono (by omega))
  exact ⟨Lnk.start (h.below be) (ht.keep (be.block _ ht.lt)), b0.below be2, r0, Wrote.of be _⟩

def Linked (w : World) (p : Nat) (many most : Int) (ns : List Nd) (w' : World) : Prop := Bod w' p many most ns ∧ Wrote (InF p ns) w w'

theorem linkEnd {w W w3 : World} {p : Nat} {many most : Int} {A B : List Nd} {t : Nd} (h : LinkRel w p many most A t B t.h W) (hb : Below W.heap.size W w3) (hF : ∀ g, InF p (A ++ t :: B) g → g < w.heap.size) (hnd : (p :: blks (A ++ t :: B)).Nodup) (hs : ∀ n ∈ A ++ t :: B, 1 ≤ n.h ∧ n.h ≤ 8) (v0 v1 v2 v3 v4 v5 v6 v7 : Value) :
    Linked w p many most (A ++ t :: B) ((((((((w3.setCell ⟨w.heap.size + 1, 0, none⟩ v0).setCell ⟨w.heap.size + 1, 1, none⟩ v1).setCell ⟨w.heap.size + 1, 2, none⟩ v2).setCell ⟨w.heap.size + 1, 3, none⟩ v3).setCell ⟨w.heap.size + 1, 4, none⟩ v4).setCell ⟨w.heap.size + 1, 5, none⟩ v5).setCell ⟨w.heap.size + 1, 6, none⟩ v6).setCell ⟨w.heap.size + 1, 7, none⟩ v7) := by
  have hw : Wrote (InF p (A ++ t :: B)) w w3 := h.wr.trans (Wrote.of hb _)
  have hw8 := wrote8 (F := fun b => b = w.heap.size + 1) (Wrote.refl _ w3) (B := w.heap.size + 1) (.inr rfl) v0 v1 v2 v3 v4 v5 v6 v7
  refine ⟨Lnk.done (h.ln.keep fun g hg => ?_) hnd hs, wrote8 hw (.inl (Nat.le_succ _)) _ _ _ _ _ _ _ _⟩
  have h1 := hF g hg
  exact (hw8.block g (Nat.lt_of_lt_of_le (h.ln.lt g hg) hb.size) (by omega)).trans (hb.block g (h.ln.lt g hg))

set_option maxRecDepth 100000 in
set_option maxHeartbeats 4000000 in
theorem linkAny {w : World} {p : Nat} {many most : Int} {A B : List Nd} {t : Nd} (h : Bod w p many most (A ++ B)) (ht : Tow w t) (hs : 1 ≤ t.h ∧ t.h ≤ 8) (hnd : (p :: blks (A ++ t :: B)).Nodup) :
    Calls Tryz.prog 240 #[(.agg #[.pointer (some ⟨(pos p A) 0, 0, none⟩), .pointer (some ⟨(pos p A) 1, 0, none⟩), .pointer (some ⟨(pos p A) 2, 0, none⟩), .pointer (some ⟨(pos p A) 3, 0, none⟩), .pointer (some ⟨(pos p A) 4, 0, none⟩), .pointer (some ⟨(pos p A) 5, 0, none⟩), .pointer (some ⟨(pos p A) 6, 0, none⟩), .pointer (some ⟨(pos p A) 7, 0, none⟩)]), .pointer (some ⟨t.b, 0, none⟩)] w fun e w' => e = .returned (.agg #[.pointer (some ⟨(upd (pos p A) t.b t.h) 0, 0, none⟩), .pointer (some ⟨(upd (pos p A) t.b t.h) 1, 0, none⟩), .pointer (some ⟨(upd (pos p A) t.b t.h) 2, 0, none⟩), .pointer (some ⟨(upd (pos p A) t.b t.h) 3, 0, none⟩), .pointer (some ⟨(upd (pos p A) t.b t.h) 4, 0, none⟩), .pointer (some ⟨(upd (pos p A) t.b t.h) 5, 0, none⟩), .pointer (some ⟨(upd (pos p A) t.b t.h) 6, 0, none⟩), .pointer (some ⟨(upd (pos p A) t.b t.h) 7, 0, none⟩)]) ∧ Linked w p many most (A ++ t :: B) w' := by
  have HS0 := Lib.hid (linkStart h ht)
  have HF := Lib.hid (show ∀ g, InF p (A ++ t :: B) g → g < w.heap.size from fun g hg => by
    rcases List.mem_cons.1 hg with e | e
    · rw [e]; exact h.hd.lt
    · simp only [blks, List.map_append, List.map_cons, List.mem_append, List.mem_cons] at e
      rcases e with e | e | e
      · exact h.lt g (List.mem_cons_of_mem _ (by rw [blks_append]; exact List.mem_append_left _ e))
      · rw [e]; exact ht.lt
      · exact h.lt g (List.mem_cons_of_mem _ (by rw [blks_append]; exact List.mem_append_right _ e)))
  have HN := Lib.hid hnd
  have HSS := Lib.hid (show ∀ n ∈ A ++ t :: B, 1 ≤ n.h ∧ n.h ≤ 8 from fun n hn => by
    simp only [List.mem_append, List.mem_cons] at hn
    rcases hn with hn | hn | hn
    · exact h.hs n (by simp [hn])
    · rw [hn]; exact hs
    · exact h.hs n (by simp [hn]))
  clear h ht hnd
  go_enter Tryz.func240, Tryz.ntmps240
  have c1 := (HS0.out.ln.tow t (by simp)).c1
  go_wp2
  generalize ((w.alloc (.cells #[.pointer (some ⟨(pos p A) 0, 0, none⟩), .pointer (some ⟨(pos p A) 1, 0, none⟩), .pointer (some ⟨(pos p A) 2, 0, none⟩), .pointer (some ⟨(pos p A) 3, 0, none⟩), .pointer (some ⟨(pos p A) 4, 0, none⟩), .pointer (some ⟨(pos p A) 5, 0, none⟩), .pointer (some ⟨(pos p A) 6, 0, none⟩), .pointer (some ⟨(pos p A) 7, 0, none⟩)] 289)).alloc (.cells #[.pointer none, .pointer none, .pointer none, .pointer none, .pointer none, .pointer none, .pointer none, .pointer none] 289)) = W0 at *
  clear c1
  go_loopw [10] (fun i wr => ∃ k : Nat, k ≤ t.h ∧ i = .int .i64 k ∧ LinkRel w p many most A t B k wr) (fun i _ => t.h - (intOf i).toNat)
  case atStart => exact ⟨0, Nat.zero_le _, rfl, HS0.out⟩
  case round =>
    obtain ⟨k, hk, rfl, hr⟩ := hrel
    clear HS0
    by_cases hlt : k < t.h
    · have k8 : k < 8 := by omega
      have i0 : (0 : Int) ≤ (k : Int) := by omega
      have i8 : (k : Int) < 8 := by omega
      have HR := Lib.hid ((LinkRel.round ⟨hr.ln.keep (fun _ _ => rfl), hr.pb, hr.rb, hr.wr.drew⟩ HF.out k8 hlt HN.out : LinkRel w p many most A t B (k + 1) ((wr.drew.setCell ⟨t.b, 2 + k, none⟩ (nxv (lv B k))).setCell ⟨pos p A k, 2 + k, none⟩ (.pointer (some ⟨t.b, 0, none⟩)))))
      have cb := hr.pb.cell k k8
      have cl := hr.ln.load k8
      obtain ⟨u, cu⟩ := (hr.ln.tow t (by simp)).ex k k8
      have fu := (hr.ln.tow t (by simp)).f (2 + k)
      have ft := hr.ln.posF k (2 + k)
      have hne : pos p A k ≠ t.b := fun e => by
        have h1 := nodupInsert HN.out
        refine h1.2 ?_
        rw [← e]
        rcases List.mem_cons.1 (pos_mem p A k) with e | e
        · rw [e]; simp
        · exact List.mem_cons_of_mem _ (by rw [blks_append]; exact List.mem_append_left _ (lv_blks e))
      have hne2 : w.heap.size ≠ t.b := by have := HF.out t.b (List.mem_cons_of_mem _ (by simp [blks])); omega
      have HNE := Lib.hid (And.intro hne hne2)
      clear hr hne hne2
      obtain ⟨y, hy⟩ := nxv_ptr (lv B k)
      rw [hy] at HR cl
      clear hy
      generalize pos p A k = q at *
      generalize t.b = tb at *
      go_wp2
      go_still_tail 13, (by kernel_rfl)
      have cu1 : wr.drew.cell? ⟨tb, 2 + k, none⟩ = some u := cu
      have fu1 : wr.drew.frozen? ⟨tb, 2 + k, none⟩ = false := fu
      have cl1 : wr.drew.cell? ⟨q, 2 + k, none⟩ = some (.pointer y) := cl
      have ft1 : wr.drew.frozen? ⟨q, 2 + k, none⟩ = false := ft
      have cb1 : wr.drew.cell? ⟨w.heap.size, k, none⟩ = some (.pointer (some ⟨q, 0, none⟩)) := cb
      change wpList _ _ _ _ _ wr.drew
      clear cu fu cl ft cb
      generalize wr.drew = W2 at *
      have cb2 : (W2.setCell ⟨tb, 2 + k, none⟩ (.pointer y)).cell? ⟨w.heap.size, k, none⟩ = some (.pointer (some ⟨q, 0, none⟩)) := (World.cell?_of_block (Below.heap_setCell _ _ _ _ HNE.out.2)).trans cb1
      have cl2 : (W2.setCell ⟨tb, 2 + k, none⟩ (.pointer y)).cell? ⟨q, 2 + k, none⟩ = some (.pointer y) := (cellFar HNE.out.1 _).trans cl1
      have ft2 : (W2.setCell ⟨tb, 2 + k, none⟩ (.pointer y)).frozen? ⟨q, 2 + k, none⟩ = false := by rw [World.frozen?_setCell]; exact ft1
      clear cb1 cl1 ft1
      go_upto_region 5 with (fail)
      generalize W2.setCell ⟨tb, 2 + k, none⟩ (.pointer y) = W3 at *
      clear cu1 fu1
      go_wp2
      go_roundw
      case rel => exact ⟨k + 1, by omega, by go_num, HR.out⟩
      case measure => simp [intOf]; omega
    · obtain rfl : k = t.h := by omega
      have c1 := (hr.ln.tow t (by simp)).c1
      have hps := hr.pb
      have hrb := hr.rb
      have HRW := Lib.hid hr
      have p0 := hps.cell 0 (by omega)
      have p1 := hps.cell 1 (by omega)
      have p2 := hps.cell 2 (by omega)
      have p3 := hps.cell 3 (by omega)
      have p4 := hps.cell 4 (by omega)
      have p5 := hps.cell 5 (by omega)
      have p6 := hps.cell 6 (by omega)
      have p7 := hps.cell 7 (by omega)
      have hth : t.h ≤ 8 := hs.2
      have C := reachAny wr.drew (pos p A) t.b t.h hth
      clear hr hs hps hrb
      go_wp2
      go_still_tail 6, (by kernel_rfl)
      change wpList _ _ _ _ _ wr.drew
      have HB1 := Lib.hid (show Below wr.heap.size wr wr.drew from (Below.refl _ _).drew)
      clear p0 p1 p2 p3 p4 p5 p6 p7 c1
      generalize wr.drew = W2 at *
      go_wp2_with fail
      refine C.mono ?_
      clear C
      rintro e w3 ⟨rfl, hb3⟩
      have hb := HB1.out.trans (hb3.mono HB1.out.size)
      have hrb : RBox0 w3 (w.heap.size + 1) := (hb.block _ (lt_of_block HRW.out.rb)).trans HRW.out.rb
      have HB := Lib.hid hb
      have r0 := hrb.cell 0
      have f0 := hrb.f 0
      have r1 := hrb.cell 1
      have f1 := hrb.f 1
      have r2 := hrb.cell 2
      have f2 := hrb.f 2
      have r3 := hrb.cell 3
      have f3 := hrb.f 3
      have r4 := hrb.cell 4
      have f4 := hrb.f 4
      have r5 := hrb.cell 5
      have f5 := hrb.f 5
      have r6 := hrb.cell 6
      have f6 := hrb.f 6
      have r7 := hrb.cell 7
      have f7 := hrb.f 7
      clear hb hb3 hrb
      go_wp2
      refine bodyPost_ret (v := (.agg #[.pointer (some ⟨(upd (pos p A) t.b t.h) 0, 0, none⟩), .pointer (some ⟨(upd (pos p A) t.b t.h) 1, 0, none⟩), .pointer (some ⟨(upd (pos p A) t.b t.h) 2, 0, none⟩), .pointer (some ⟨(upd (pos p A) t.b t.h) 3, 0, none⟩), .pointer (some ⟨(upd (pos p A) t.b t.h) 4, 0, none⟩), .pointer (some ⟨(upd (pos p A) t.b t.h) 5, 0, none⟩), .pointer (some ⟨(upd (pos p A) t.b t.h) 6, 0, none⟩), .pointer (some ⟨(upd (pos p A) t.b t.h) 7, 0, none⟩)])) (by simp [results, Tryz.results240, go_sem, r0, r1, r2, r3, r4, r5, r6, r7]) rfl ⟨rfl, ?_⟩
      exact linkEnd HRW.out HB.out HF.out HN.out HSS.out _ _ _ _ _ _ _ _

end Go.Proofs.YtikaoikladbdpaaGreat
