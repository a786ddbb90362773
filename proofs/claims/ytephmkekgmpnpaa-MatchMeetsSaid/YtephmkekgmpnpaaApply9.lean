/-
  Those whom Apply of package match tells what becomes of operations, at every stack and at nil. Conditions: a stack as StkO says; operations that lie in memory.
-/
import Derived.Test.YtephmkekgmpnpaaThruB9
import Derived.Test.YtephmkekgmpnpaaAppPl9
namespace Go.Proofs.Ytephmkekgmpnpaa
open Go.RowKit

/-- A stack, or none: as one of 0 without items. -/
def StkO (w : World) (F : Nat → Prop) (sp : Option Nat) (most : Int) (zs : List Int) : Prop :=
  match sp with
  | none => most = 0 ∧ zs = []
  | some p => Stk w F p most zs
/-- Its pointer. -/
def ptrO (sp : Option Nat) : Option Addr := sp.map fun p => ⟨p, 0, none⟩

section
variable {w w' : World} {F G : Nat → Prop} {sp : Option Nat} {most : Int} {zs : List Int}
theorem StkO.room (h : StkO w F sp most zs) : (zs.length : Int) ≤ most ∧ 0 ≤ most ∧ most ≤ 1000 := by
  cases sp with
  | none => obtain ⟨rfl, rfl⟩ := h; simp
  | some p => exact ⟨Stk.room h, Stk.s0 h, Stk.s1 h⟩
theorem StkO.apart (h : StkO w F sp most zs) (hw : Wrote G w w') (ha : Apart F G) : StkO w' F sp most zs := by
  cases sp with
  | none => exact h
  | some p => exact Stk.apart h hw ha
theorem StkO.fresh (h : StkO w F sp most zs) (hb : Below w.heap.size w w') : StkO w' F sp most zs := h.apart (Wrote.of hb (fun _ => False)) (fun _ _ h => h)
theorem lenO (h : StkO w F sp most zs) : Calls Try.prog 34 #[.pointer (ptrO sp)] w fun e w' => e = .returned (.int .i64 zs.length) ∧ w = w' := by
  cases sp with
  | none => obtain ⟨_, rfl⟩ := h; exact lenNil w
  | some p => exact lenAny h
theorem mostO (h : StkO w F sp most zs) : Calls Try.prog 26 #[.pointer (ptrO sp)] w fun e w' => e = .returned (.int .i64 most) ∧ w = w' := by
  cases sp with
  | none => obtain ⟨rfl, _⟩ := h; exact mostNil w
  | some p => exact mostAny h
/-- What a call on it leaves. -/
def DidO (F : Nat → Prop) (sp : Option Nat) (most : Int) (zs : List Int) (w w' : World) : Prop := ∃ F', StkO w' F' sp most zs ∧ Wrote F w w' ∧ Later F F' w
theorem popO (y : Int) (h : StkO w F sp most (zs ++ [y])) :
    Calls Try.prog 38 #[.pointer (ptrO sp)] w fun e w' => e = .returned (.tuple #[.int .i32 y, .bool true]) ∧ DidO F sp most zs w w' := by
  cases sp with
  | none => obtain ⟨_, h⟩ := h; simp at h
  | some p => exact popOk y h
theorem pushO (h : StkO w F sp most zs) (x : Int) (hf : (zs.length : Int) < most) :
    Calls Try.prog 28 #[.pointer (ptrO sp), .int .i32 x] w fun e w' => e = .returned (.bool true) ∧ DidO F sp most (zs ++ [x]) w w' := by
  cases sp with
  | none => obtain ⟨rfl, rfl⟩ := h; simp at hf
  | some p => exact pushOk h x hf
theorem Wrote.more (h : Wrote F w w') (hs : ∀ g, F g → G g) : Wrote G w w' := ⟨h.os, h.tape, h.output, h.size, fun k hk hn => h.block k hk (fun e => hn (hs k e))⟩
end

/-- A variable that holds a stack's pointer; one that holds the operations. -/
def QBx (w : World) (B : Nat) (sp : Option Nat) : Prop := w.heap[B]? = some (.cells #[.pointer (ptrO sp)] 30 (0, 0))
def LBx (w : World) (B : Nat) (ao : Option Addr) (n cap : Nat) : Prop := w.heap[B]? = some (.cells #[.slice ao n cap] 22 (0, 0))
section
variable {w w' : World} {B n cap : Nat} {sp : Option Nat} {ao : Option Addr}
theorem QBx.lt (h : QBx w B sp) : B < w.heap.size := lt_of_block h
theorem QBx.keep (h : QBx w B sp) (hb : w'.heap[B]? = w.heap[B]?) : QBx w' B sp := hb.trans h
theorem QBx.cell (h : QBx w B sp) : w.cell? ⟨B, 0, none⟩ = some (.pointer (ptrO sp)) := by unfold QBx at h; simp [World.cell?, h]
theorem LBx.lt (h : LBx w B ao n cap) : B < w.heap.size := lt_of_block h
theorem LBx.keep (h : LBx w B ao n cap) (hb : w'.heap[B]? = w.heap[B]?) : LBx w' B ao n cap := hb.trans h
theorem LBx.cell (h : LBx w B ao n cap) : w.cell? ⟨B, 0, none⟩ = some (.slice ao n cap) := by unfold LBx at h; simp [World.cell?, h]
end

/-- What stands beside a line: the variables, what is told, the operations, the stack. -/
structure AI (B n cap : Nat) (ao : Option Addr) (os : List (Int × Int)) (sp : Option Nat) (most : Int) (Bs Bo Bt gt : Nat) (row : List (Int × Int)) (items : List Int) (G : Nat → Prop) (W : World) : Prop where
  own : ∀ g, g = Bs ∨ g = Bo ∨ g = Bt ∨ g = gt → G g
  foot : ∀ g, G g → g < W.heap.size
  sb : QBx W Bs sp
  ob : LBx W Bo ao n cap
  tb : SBx W Bt 37 gt n
  rrow : RRow W gt row
  len : row.length = n
  ops : OpsAt W ao n os
  off : 0 < n → ∀ a, ao = some a → ¬ G a.block ∧ a.block < B
  stk : ∃ F, (∀ g, F g → G g) ∧ (∀ g, F g → g ≠ Bs ∧ g ≠ Bo ∧ g ≠ Bt ∧ g ≠ gt) ∧ StkO W F sp most items

section
variable {B n cap : Nat} {ao : Option Addr} {os : List (Int × Int)} {sp : Option Nat} {most : Int} {Bs Bo Bt gt : Nat} {row : List (Int × Int)} {items : List Int} {G L : Nat → Prop} {W W' : World}

theorem AI.ne (h : AI B n cap ao os sp most Bs Bo Bt gt row items G W) : Bs ≠ gt ∧ Bo ≠ gt ∧ Bt ≠ gt := by
  have h1 := h.sb
  have h2 := h.ob
  have h3 := h.tb
  have h4 := h.rrow
  unfold QBx at h1
  unfold LBx at h2
  unfold SBx at h3
  unfold RRow at h4
  refine ⟨?_, ?_, ?_⟩ <;> (rintro rfl; simp_all)

theorem AI.keep (h : AI B n cap ao os sp most Bs Bo Bt gt row items G W) (hw : Wrote L W W') (ha : Apart G L) (hL : ∀ g, L g → B ≤ g) : AI B n cap ao os sp most Bs Bo Bt gt row items G W' := by
  obtain ⟨F, f1, f2, f3⟩ := h.stk
  refine ⟨h.own, fun g hg => Nat.lt_of_lt_of_le (h.foot g hg) hw.size, h.sb.keep (hw.block _ h.sb.lt (ha _ (h.own _ (.inl rfl)))), h.ob.keep (hw.block _ h.ob.lt (ha _ (h.own _ (.inr (.inl rfl))))), h.tb.keep (hw.block _ h.tb.lt (ha _ (h.own _ (.inr (.inr (.inl rfl)))))),
    h.rrow.keep (hw.block _ h.rrow.lt (ha _ (h.own _ (.inr (.inr (.inr rfl)))))), h.len, ?_, h.off, F, f1, f2, f3.apart hw (fun g hg => ha g (f1 g hg))⟩
  refine ⟨h.ops.1, fun hp => ?_⟩
  obtain ⟨b, off, e, hl, hc⟩ := h.ops.2 hp
  have hn : ¬ L b := fun hb => by
    have h1 := hL b hb
    have h2 := (h.off hp _ e).2
    simp only at h2
    omega
  exact ⟨b, off, e, Nat.lt_of_lt_of_le hl hw.size, fun i hi => ⟨(hw.cell (p := ⟨b, _, none⟩) hl hn).trans (hc i hi).1, (hw.cell (p := ⟨b, _, none⟩) hl hn).trans (hc i hi).2⟩⟩

/-- A store into what is told. -/
theorem AI.put {a : Addr} {x : Value} {row' : List (Int × Int)} (h : AI B n cap ao os sp most Bs Bo Bt gt row items G W) (ha : a.block = gt) (hr : RRow (W.setCell a x) gt row') (hl : row'.length = n) : AI B n cap ao os sp most Bs Bo Bt gt row' items G (W.setCell a x) := by
  obtain ⟨F, f1, f2, f3⟩ := h.stk
  obtain ⟨n1, n2, n3⟩ := h.ne
  have hw : Wrote (fun g => g = gt) W (W.setCell a x) := (Wrote.refl (fun g => g = gt) W).setCell (q := a) (.inr ha) _
  refine ⟨h.own, fun g hg => Nat.lt_of_lt_of_le (h.foot g hg) hw.size, h.sb.keep (hw.block _ h.sb.lt n1), h.ob.keep (hw.block _ h.ob.lt n2), h.tb.keep (hw.block _ h.tb.lt n3), hr, hl, ?_, h.off, F, f1, f2, f3.apart hw (fun g hg e => (f2 g hg).2.2.2 e)⟩
  refine ⟨h.ops.1, fun hp => ?_⟩
  obtain ⟨b, off, e, hl, hc⟩ := h.ops.2 hp
  have hn : ¬ b = gt := fun hb => (h.off hp _ e).1 (by subst hb; exact h.own _ (.inr (.inr (.inr rfl))))
  exact ⟨b, off, e, Nat.lt_of_lt_of_le hl hw.size, fun i hi => ⟨(hw.cell (p := ⟨b, _, none⟩) hl hn).trans (hc i hi).1, (hw.cell (p := ⟨b, _, none⟩) hl hn).trans (hc i hi).2⟩⟩

/-- A call on the stack. -/
theorem AI.did {items' : List Int} (h : AI B n cap ao os sp most Bs Bo Bt gt row items G W) {F : Nat → Prop} (f1 : ∀ g, F g → G g) (f2 : ∀ g, F g → g ≠ Bs ∧ g ≠ Bo ∧ g ≠ Bt ∧ g ≠ gt) (hd : DidO F sp most items' W W') :
    ∃ G', AI B n cap ao os sp most Bs Bo Bt gt row items' G' W' ∧ Wrote G W W' ∧ Later G G' W := by
  obtain ⟨F', s', wr, lt⟩ := hd
  have hs := wr.size
  refine ⟨fun g => G g ∨ (F' g ∧ g < W'.heap.size), ⟨fun g hg => .inl (h.own g hg), fun g hg => ?_, h.sb.keep (wr.block _ h.sb.lt (fun e => (f2 _ e).1 rfl)), h.ob.keep (wr.block _ h.ob.lt (fun e => (f2 _ e).2.1 rfl)), h.tb.keep (wr.block _ h.tb.lt (fun e => (f2 _ e).2.2.1 rfl)), h.rrow.keep (wr.block _ h.rrow.lt (fun e => (f2 _ e).2.2.2 rfl)), h.len, ?_, fun hp a ha => ⟨?_, (h.off hp a ha).2⟩, ?_⟩, wr.more f1, fun g hg => ?_⟩
  · rcases hg with h1 | h1
    · exact Nat.lt_of_lt_of_le (h.foot g h1) hs
    · exact h1.2
  · refine ⟨h.ops.1, fun hp => ?_⟩
    obtain ⟨b, off, e, hl, hc⟩ := h.ops.2 hp
    have hn : ¬ F b := fun hb => (h.off hp _ e).1 (f1 _ hb)
    exact ⟨b, off, e, Nat.lt_of_lt_of_le hl wr.size, fun i hi => ⟨(wr.cell (p := ⟨b, _, none⟩) hl hn).trans (hc i hi).1, (wr.cell (p := ⟨b, _, none⟩) hl hn).trans (hc i hi).2⟩⟩
  · obtain ⟨b, off, e, hl, _⟩ := h.ops.2 hp
    have hG := (h.off hp a ha).1
    rw [e] at ha
    injection ha with ha
    subst ha
    rintro (h1 | h1)
    · exact hG h1
    · rcases lt _ h1.1 with h2 | h2
      · exact hG (f1 _ h2)
      · simp only at h2; omega
  · refine ⟨fun g => F' g ∧ g < W'.heap.size, fun g hg => .inr hg, fun g hg => ?_, ?_⟩
    · rcases lt g hg.1 with h2 | h2
      · exact f2 g h2
      · have := h.sb.lt
        have := h.ob.lt
        have := h.tb.lt
        have := h.rrow.lt
        refine ⟨?_, ?_, ?_, ?_⟩ <;> omega
    · cases sp with
      | none => exact s'
      | some p =>
        obtain ⟨v, m, k2, k3, k4⟩ := s'
        exact ⟨v, m, ⟨k2, k4 p k2⟩, fun g hg => ⟨k3 g hg, k4 g (k3 g hg)⟩, fun g hg => hg.2⟩
  · rcases hg with h1 | h1
    · exact .inl h1
    · rcases lt g h1.1 with h2 | h2
      · exact .inl (f1 g h2)
      · exact .inr h2

theorem AI.fresh (h : AI B n cap ao os sp most Bs Bo Bt gt row items G W) (hb : Below W.heap.size W W') : AI B n cap ao os sp most Bs Bo Bt gt row items G W' := h.keep (Wrote.of hb (fun _ => False)) (fun _ _ h => h) (fun _ h => h.elim)

/-- What a call on the stack leaves. -/
def APost (B n cap : Nat) (ao : Option Addr) (os : List (Int × Int)) (sp : Option Nat) (most : Int) (Bs Bo Bt gt : Nat) (row : List (Int × Int)) (items : List Int) (G : Nat → Prop) (W W' : World) : Prop :=
  ∃ G', AI B n cap ao os sp most Bs Bo Bt gt row items G' W' ∧ Wrote G W W' ∧ Later G G' W
theorem AI.pop {y : Int} (h : AI B n cap ao os sp most Bs Bo Bt gt row (items ++ [y]) G W) :
    Calls Try.prog 38 #[.pointer (ptrO sp)] W fun e w' => e = .returned (.tuple #[.int .i32 y, .bool true]) ∧ APost B n cap ao os sp most Bs Bo Bt gt row items G W w' := by
  obtain ⟨F, f1, f2, f3⟩ := h.stk
  exact (popO y f3).mono fun e w' ⟨he, d⟩ => ⟨he, h.did f1 f2 d⟩
theorem AI.push (h : AI B n cap ao os sp most Bs Bo Bt gt row items G W) (x : Int) (hf : (items.length : Int) < most) :
    Calls Try.prog 28 #[.pointer (ptrO sp), .int .i32 x] W fun e w' => e = .returned (.bool true) ∧ APost B n cap ao os sp most Bs Bo Bt gt row (items ++ [x]) G W w' := by
  obtain ⟨F, f1, f2, f3⟩ := h.stk
  exact (pushO f3 x hf).mono fun e w' ⟨he, d⟩ => ⟨he, h.did f1 f2 d⟩
theorem APost.from {V : World} (hb : Below W.heap.size W V) (h : APost B n cap ao os sp most Bs Bo Bt gt row items G V W') : APost B n cap ao os sp most Bs Bo Bt gt row items G W W' := by
  obtain ⟨G', a, w, l⟩ := h
  exact ⟨G', a, (Wrote.of hb G).trans w, (Later.refl G W).trans l hb.size⟩
/-- And a value that is told. -/
theorem APost.tell (h : APost B n cap ao os sp most Bs Bo Bt gt row items G W W') (k : Nat) (x : Int) : APost B n cap ao os sp most Bs Bo Bt gt (row.set k ((row.getD k (0, 0)).1, x)) items G W (W'.setCell ⟨gt, k * 2 + 1, none⟩ (.int .i32 x)) := by
  obtain ⟨G', a, w, l⟩ := h
  exact ⟨G', a.put rfl (a.rrow.setV k x) (by simp [a.len]), w.step l ((Wrote.refl G' W').setCell (q := ⟨gt, k * 2 + 1, none⟩) (.inr (a.own _ (.inr (.inr (.inr rfl))))) _), l⟩

theorem acode (h : AI B n cap ao os sp most Bs Bo Bt gt row items G W) {k : Nat} (hk : k < n) :
    Calls Try.prog 35 #[.int .i64 k, .pointer (some ⟨Bt, 0, none⟩)] W fun e w' => e = .returned (.pointer (some ⟨gt, k * 2, none⟩)) ∧ W = w' := by
  have c := h.tb.cell
  have i1 : (k : Int) < (n : Int) := by omega
  clear h
  go_enter Try.func35, Try.ntmps35
  go_wp2
  go_ret
  exact ⟨rfl, rfl⟩

set_option maxHeartbeats 1600000 in
theorem ameet (h : AI B n cap ao os sp most Bs Bo Bt gt row items G W) {k j : Nat} (hk : k < n) (hj : j < n) :
    Calls Try.prog 36 #[.int .i64 k, .int .i64 j, .pointer (some ⟨Bo, 0, none⟩), .pointer (some ⟨Bt, 0, none⟩)] W fun e w' => e = .returned (.tuple #[]) ∧ ∃ q, w' = (W.drewN q).setCell ⟨gt, k * 2 + 1, none⟩ (.int .i32 (valOf os j)) := by
  have c1 := h.tb.cell
  have c2 := h.ob.cell
  obtain ⟨b, off, rfl, bl, hc⟩ := h.ops.2 (by omega)
  have c3 := (hc j hj).2
  have c4 := (h.rrow.cells (i := k) (by rw [h.len]; exact hk)).2
  have f4 := h.rrow.free (k * 2 + 1)
  have HV := Lib.hid (show valOf os (j : Int) = (os.getD j (0, 0)).2 by simp [valOf])
  rw [HV.out]
  generalize (os.getD j (0, 0)).2 = x at *
  generalize (row.getD k (0, 0)).2 = z at *
  have i1 : (k : Int) < (n : Int) := by omega
  have i2 : (j : Int) < (n : Int) := by omega
  clear h hc bl HV
  go_enter Try.func36, Try.ntmps36
  go_wp2
  go_still_tail 9, (by kernel_rfl)
  clear c1 c2 c3
  have c5 : W.drew.cell? ⟨gt, k * 2 + 1, none⟩ = some (.int .i32 z) := c4
  have f5 : W.drew.frozen? ⟨gt, k * 2 + 1, none⟩ = false := f4
  clear c4 f4
  change wpList _ _ _ _ _ W.drew
  have HW := Lib.hid (show W.drew = W.drewN 1 from rfl)
  generalize W.drew = W2 at *
  go_wp2
  go_end0
  exact ⟨rfl, 1, by rw [← HW.out]⟩

set_option maxHeartbeats 1600000 in
theorem atake {y : Int} (h : AI B n cap ao os sp most Bs Bo Bt gt row (items ++ [y]) G W) {k : Nat} (hk : k < n) :
    Calls Try.prog 37 #[.int .i64 k, .pointer (some ⟨Bs, 0, none⟩), .pointer (some ⟨Bt, 0, none⟩)] W fun e w' => e = .returned (.tuple #[]) ∧ APost B n cap ao os sp most Bs Bo Bt gt (row.set k ((row.getD k (0, 0)).1, y)) items G W w' := by
  have c1 := h.tb.cell
  have c2 := h.sb.cell
  have i1 : (k : Int) < (n : Int) := by omega
  have hbd : Below W.heap.size W W.drew := (Below.refl _ _).drew
  have C := (h.fresh hbd).pop
  have HB := Lib.hid hbd
  have HL := Lib.hid h.len
  clear h hbd
  go_enter Try.func37, Try.ntmps37
  go_wp2
  go_region_held3 (fun w' => w'.cell? ⟨Bt, 0, none⟩ = some (.slice (some ⟨gt, 0, none⟩) n n) ∧ w'.cell? ⟨Bs, 0, none⟩ = some (.pointer (ptrO sp))) (first | exact ⟨c1, c2⟩ | exact ⟨h1, h2⟩ | exact ⟨cellOther _ n1 h1, cellOther _ n2 h2⟩) (((with_reducible refine C.mono ?_); rintro e w6 ⟨rfl, p6⟩; obtain ⟨h1, h2, h3, h4, n1, n2⟩ := (show w6.cell? ⟨Bt, 0, none⟩ = some (.slice (some ⟨gt, 0, none⟩) n n) ∧ w6.cell? ⟨Bs, 0, none⟩ = some (.pointer (ptrO sp)) ∧ (∃ z, w6.cell? ⟨gt, k * 2 + 1, none⟩ = some (.int .i32 z)) ∧ w6.frozen? ⟨gt, k * 2 + 1, none⟩ = false ∧ Bt ≠ gt ∧ Bs ≠ gt from (by obtain ⟨G', a, _, _⟩ := id p6; exact ⟨a.tb.cell, a.sb.cell, ⟨_, (a.rrow.cells (i := k) (by rw [a.len]; exact hk)).2⟩, a.rrow.free _, a.ne.2.2, a.ne.1⟩)); obtain ⟨z6, h3⟩ := h3; have H6 := Lib.hid p6; clear p6))
  all_goals
    go_wp2
    go_end0
    exact ⟨rfl, (APost.from HB.out H6.out).tell k y⟩

set_option maxHeartbeats 1600000 in
theorem astay (h : AI B n cap ao os sp most Bs Bo Bt gt row items G W) {j : Nat} (hj : j < n) (hf : (items.length : Int) < most) :
    Calls Try.prog 39 #[.int .i64 j, .pointer (some ⟨Bs, 0, none⟩), .pointer (some ⟨Bo, 0, none⟩)] W fun e w' => e = .returned (.tuple #[]) ∧ APost B n cap ao os sp most Bs Bo Bt gt row (items ++ [valOf os j]) G W w' := by
  have c1 := h.sb.cell
  have c2 := h.ob.cell
  obtain ⟨b, off, rfl, bl, hc⟩ := h.ops.2 (by omega)
  have c3 := (hc j hj).2
  have HV := Lib.hid (show valOf os (j : Int) = (os.getD j (0, 0)).2 by simp [valOf])
  rw [HV.out]
  generalize (os.getD j (0, 0)).2 = x at *
  have i2 : (j : Int) < (n : Int) := by omega
  have hbd : Below W.heap.size W W.drew := (Below.refl _ _).drew
  have C := (h.fresh hbd).push x hf
  have HB := Lib.hid hbd
  clear h hc bl HV hbd
  go_enter Try.func39, Try.ntmps39
  go_wp2
  go_still_tail 6, (by kernel_rfl)
  clear c1 c2 c3
  change wpList _ _ _ _ _ W.drew
  generalize W.drew = W2 at *
  go_wp2_with fail
  refine C.mono ?_
  clear C
  rintro e w6 ⟨rfl, p6⟩
  have H6 := Lib.hid p6
  clear p6
  go_wp2
  go_end0
  exact ⟨rfl, APost.from HB.out H6.out⟩

end
end Go.Proofs.Ytephmkekgmpnpaa
