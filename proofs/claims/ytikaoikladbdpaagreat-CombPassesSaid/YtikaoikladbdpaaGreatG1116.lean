/-
  A batch at a stack, in plain lists: what one by one makes of the items, and what each is told; and that a line with the items that are left says the same. Conditions: none; no Go function is looked at here. Those whom Apply of package match tells what becomes of operations, at every stack and at nil. Conditions: a stack as StkO says; operations that lie in memory. What Apply of package match tells, and leaves, at every stack and at nil: as one by one. Conditions: a stack as StkO says; operations that lie in memory, beside it, at most a million.
-/
import Derived.Test.YtikaoikladbdpaaGreatG1016
namespace Go.Proofs.YtikaoikladbdpaaGreat.K9

def valOf (os : List (Int × Int)) (j : Int) : Int := (os.getD j.toNat (0, 0)).2
def itemsAt (most : Int) (zs : List Int) (os : List (Int × Int)) : Nat → List Int
  | 0 => zs
  | k + 1 => stkL most (itemsAt most zs os k) (kindsOf os k) (valOf os k)
def codeAt (most : Int) (zs : List Int) (os : List (Int × Int)) (k : Nat) : Int := stkC most (itemsAt most zs os k) (kindsOf os k)
def valAt (most : Int) (zs : List Int) (os : List (Int × Int)) (k : Nat) : Int := stkV (itemsAt most zs os k) (kindsOf os k)
def resL (most : Int) (zs : List Int) (os : List (Int × Int)) (k : Nat) : List (Int × Int) := (List.range k).map fun i => (codeAt most zs os i, valAt most zs os i)
def resK (most : Int) (zs : List Int) (os : List (Int × Int)) (n k : Nat) : List (Int × Int) := resL most zs os k ++ List.replicate (n - k) (0, 0)

def lineItems (zs : List Int) (os : List (Int × Int)) (s : Int × List Int) : List Int := zs.take s.1.toNat ++ s.2.map (valOf os)

section
variable {most : Int} {zs : List Int} {os : List (Int × Int)} {n k : Nat}
theorem resL_length : (resL most zs os k).length = k := by simp [resL]
theorem resK_length (h : k ≤ n) : (resK most zs os n k).length = n := by simp [resK, resL_length]; omega
theorem resL_snoc : resL most zs os (k + 1) = resL most zs os k ++ [(codeAt most zs os k, valAt most zs os k)] := by simp [resL, List.range_succ]
theorem resK_all : resK most zs os n n = resL most zs os n := by simp [resK]
theorem resK_none : resK most zs os n 0 = List.replicate n (0, 0) := by simp [resK, resL]
theorem resK_at (h : k < n) : (resK most zs os n k).getD k (0, 0) = (0, 0) := by
  unfold resK
  obtain ⟨d, hd⟩ : ∃ d, n - k = d + 1 := ⟨n - k - 1, by omega⟩
  simp [List.getD, List.getElem?_append_right, resL_length, hd]
theorem resK_put (h : k < n) : (resK most zs os n k).set k (codeAt most zs os k, valAt most zs os k) = resK most zs os n (k + 1) := by
  unfold resK
  rw [List.set_append_right _ _ (by rw [resL_length]; omega), resL_length, Nat.sub_self, show n - k = (n - (k + 1)) + 1 by omega, List.replicate_succ, List.set_cons_zero, resL_snoc]
  simp
def resV (most : Int) (zs : List Int) (os : List (Int × Int)) (n k : Nat) : List (Int × Int) := (resK most zs os n k).set k (0, valAt most zs os k)
theorem resV_at (h : k < n) : (resV most zs os n k).getD k (0, 0) = (0, valAt most zs os k) := by
  unfold resV
  simp [List.getD, resK_length (Nat.le_of_lt h), h]
theorem resV_put (h : k < n) : (resV most zs os n k).set k (codeAt most zs os k, ((resV most zs os n k).getD k (0, 0)).2) = resK most zs os n (k + 1) := by
  rw [resV_at h]
  unfold resV
  rw [List.set_set, resK_put h]
theorem resV_set (h : k < n) : (resK most zs os n k).set k (((resK most zs os n k).getD k (0, 0)).1, valAt most zs os k) = resV most zs os n k := by
  rw [resK_at h]; rfl
theorem resV_idle (h : k < n) (e : valAt most zs os k = 0) : resV most zs os n k = resK most zs os n k := by
  unfold resV
  rw [e]
  apply List.ext_getElem?
  intro i
  by_cases hi : i = k
  · subst hi
    have := resK_at (most := most) (zs := zs) (os := os) h
    have hl : i < (resK most zs os n i).length := by rw [resK_length (Nat.le_of_lt h)]; exact h
    simp only [List.getD, List.getElem?_eq_getElem hl, Option.getD_some] at this
    simp [hl, this]
  · rw [List.getElem?_set_ne (by omega)]

theorem take_pred {zs : List Int} {t : Nat} (h : t < zs.length) : zs.take (t + 1) = zs.take t ++ [zs.getD t 0] := by
  rw [List.take_succ_eq_append_getElem h]; simp [List.getD, h]

theorem line_items (hz : (zs.length : Int) ≤ most) : ∀ k, itemsAt most zs os k = lineItems zs os (lineAt most zs.length (kindsOf os) k)
  | 0 => by simp [itemsAt, lineItems, lineAt]
  | k + 1 => by
    have ih := line_items hz k
    have ho := lineAt_ok (show (0 : Int) ≤ zs.length by omega) hz (kindsOf os) k
    simp only [itemsAt, lineAt, ih]
    generalize hS : lineAt most zs.length (kindsOf os) k = s at *
    obtain ⟨t, ps⟩ := s
    obtain ⟨h1, h2, h3, h4⟩ := ho
    simp only at h1 h2 h3 h4
    have hlen : ((lineItems zs os (t, ps)).length : Int) = t + ps.length := by simp [lineItems]; omega
    unfold lineStep stkL
    by_cases k1 : kindsOf os k = 1
    · simp only [k1, if_true]
      rw [hlen]
      by_cases hf : t + (ps.length : Int) < most
      · simp only [if_pos hf]
        simp [lineItems]
      · simp only [if_neg hf]
    · by_cases k2 : kindsOf os k = 2
      · simp only [k2, if_true, if_neg (show ¬ (2 : Int) = 1 by omega)]
        by_cases hp : ps = []
        · subst hp
          simp only [if_true]
          by_cases ht : 0 < t
          · simp only [if_pos ht]
            obtain ⟨m, hm⟩ : ∃ m : Nat, t = ((m + 1 : Nat) : Int) := ⟨t.toNat - 1, by omega⟩
            subst hm
            have e1 : (((m + 1 : Nat) : Int) - 1).toNat = m := by omega
            have e2 : ((m + 1 : Nat) : Int).toNat = m + 1 := by omega
            simp only [lineItems, e1, e2, List.map_nil, List.append_nil]
            rw [take_pred (by omega), List.dropLast_concat]
          · obtain rfl : t = 0 := by omega
            simp [lineItems]
        · simp only [if_neg hp]
          rcases List.eq_nil_or_concat ps with e | ⟨ys, y, e⟩
          · exact absurd e hp
          · rw [List.concat_eq_append] at e
            subst e
            simp only [lineItems, List.map_append, List.map_cons, List.map_nil, List.dropLast_concat]
            rw [← List.append_assoc, List.dropLast_concat]
      · simp only [if_neg k1, if_neg k2]

theorem line_code (hz : (zs.length : Int) ≤ most) (k : Nat) : lineC most (lineAt most zs.length (kindsOf os) k) (kindsOf os k) = codeAt most zs os k := by
  unfold codeAt
  rw [line_items hz k]
  have ho := lineAt_ok (show (0 : Int) ≤ zs.length by omega) hz (kindsOf os) k
  generalize lineAt most zs.length (kindsOf os) k = s at *
  obtain ⟨t, ps⟩ := s
  obtain ⟨h1, h2, h3, h4⟩ := ho
  simp only at h1 h2 h3 h4
  have hlen : ((lineItems zs os (t, ps)).length : Int) = t + ps.length := by simp [lineItems]; omega
  unfold lineC stkC
  rw [hlen]
  by_cases k1 : kindsOf os k = 1
  · simp only [k1, if_true]
  · by_cases k2 : kindsOf os k = 2
    · simp only [k2, if_true, if_neg (show ¬ (2 : Int) = 1 by omega)]
      by_cases hp : ps = []
      · subst hp
        by_cases ht : 0 < t
        · have : lineItems zs os (t, []) ≠ [] := by
            intro e
            rw [e] at hlen
            simp at hlen
            omega
          simp [ht, this]
        · obtain rfl : t = 0 := by omega
          simp [lineItems]
      · have : lineItems zs os (t, ps) ≠ [] := by
          intro e
          rw [e] at hlen
          have := List.length_pos_iff.2 hp
          simp at hlen
          omega
        simp [hp, this]
    · simp only [if_neg k1, if_neg k2]

theorem line_meet (hz : (zs.length : Int) ≤ most) {k : Nat} (hk : kindsOf os k = 2) {ys : List Int} {j : Int} (hs : (lineAt most zs.length (kindsOf os) k).2 = ys ++ [j]) : valAt most zs os k = valOf os j := by
  unfold valAt
  rw [line_items hz k]
  unfold lineItems stkV
  rw [hs, hk]
  simp only [List.map_append, List.map_cons, List.map_nil, if_true]
  rw [← List.append_assoc, List.getLastD_concat]
theorem line_take (hz : (zs.length : Int) ≤ most) {k : Nat} (hk : kindsOf os k = 2) (hs : (lineAt most zs.length (kindsOf os) k).2 = []) {m : Nat} (ht : (lineAt most zs.length (kindsOf os) k).1 = ((m + 1 : Nat) : Int)) : valAt most zs os k = zs.getD m 0 ∧ m < zs.length := by
  have ho := lineAt_ok (show (0 : Int) ≤ zs.length by omega) hz (kindsOf os) k
  have hm : m < zs.length := by have := ho.high; omega
  refine ⟨?_, hm⟩
  unfold valAt
  rw [line_items hz k]
  unfold lineItems stkV
  rw [hs, hk, ht, show ((m + 1 : Nat) : Int).toNat = m + 1 by omega, take_pred hm]
  simp
theorem line_idle (hz : (zs.length : Int) ≤ most) {k : Nat} (hno : kindsOf os k = 2 → (lineAt most zs.length (kindsOf os) k).2 = [] ∧ ¬ 0 < (lineAt most zs.length (kindsOf os) k).1) : valAt most zs os k = 0 := by
  unfold valAt stkV
  split
  · rename_i hk
    obtain ⟨h1, h2⟩ := hno hk
    rw [line_items hz k]
    have ho := lineAt_ok (show (0 : Int) ≤ zs.length by omega) hz (kindsOf os) k
    have e : (lineAt most zs.length (kindsOf os) k).1 = 0 := by have := ho.low; omega
    unfold lineItems
    rw [h1, e]
    simp
  · rfl
end

end Go.Proofs.YtikaoikladbdpaaGreat.K9
namespace Go.Proofs.YtikaoikladbdpaaGreat.K9
open Go.RowKit

def StkO (w : World) (F : Nat → Prop) (sp : Option Nat) (most : Int) (zs : List Int) : Prop :=
  match sp with
  | none => most = 0 ∧ zs = []
  | some p => Stk w F p most zs
def ptrO (sp : Option Nat) : Option Addr := sp.map fun p => ⟨p, 0, none⟩

section
variable {w w' : World} {F G : Nat → Prop} {sp : Option Nat} {most : Int} {zs : List Int}
theorem StkO.room (h : StkO w F sp most zs) : (zs.length : Int) ≤ most ∧ 0 ≤ most ∧ most ≤ 1000 := by
  cases sp with
  | none => obtain ⟨rfl, rfl⟩ := h; simp
  | some p => exact ⟨Stk.room h, Stk.s0 h, Stk.s1 h⟩
theorem StkO.apart (h : StkO w F sp most zs) (hw : Wrote G w w') (ha : Apart F G) : StkO w' F sp most zs := by
  cases sp with
  | none => exact h
  | some p => exact Stk.apart h hw ha
theorem StkO.fresh (h : StkO w F sp most zs) (hb : Below w.heap.size w w') : StkO w' F sp most zs := h.apart (Wrote.of hb (fun _ => False)) (fun _ _ h => h)
theorem lenO (h : StkO w F sp most zs) : Calls Tryz.prog 154 #[.pointer (ptrO sp)] w fun e w' => e = .returned (.int .i64 zs.length) ∧ w = w' := by
  cases sp with
  | none => obtain ⟨_, rfl⟩ := h; exact lenNil w
  | some p => exact lenAny h
theorem mostO (h : StkO w F sp most zs) : Calls Tryz.prog 162 #[.pointer (ptrO sp)] w fun e w' => e = .returned (.int .i64 most) ∧ w = w' := by
  cases sp with
  | none => obtain ⟨rfl, _⟩ := h; exact mostNil w
  | some p => exact mostAny h
def DidO (F : Nat → Prop) (sp : Option Nat) (most : Int) (zs : List Int) (w w' : World) : Prop := ∃ F', StkO w' F' sp most zs ∧ Wrote F w w' ∧ Later F F' w
theorem popO (y : Int) (h : StkO w F sp most (zs ++ [y])) :
    Calls Tryz.prog 166 #[.pointer (ptrO sp)] w fun e w' => e = .returned (.tuple #[.int .i32 y, .bool true]) ∧ DidO F sp most zs w w' := by
  cases sp with
  | none => obtain ⟨_, h⟩ := h; simp at h
  | some p => exact popOk y h
theorem pushO (h : StkO w F sp most zs) (x : Int) (hf : (zs.length : Int) < most) :
    Calls Tryz.prog 168 #[.pointer (ptrO sp), .int .i32 x] w fun e w' => e = .returned (.bool true) ∧ DidO F sp most (zs ++ [x]) w w' := by
  cases sp with
  | none => obtain ⟨rfl, rfl⟩ := h; simp at hf
  | some p => exact pushOk h x hf
theorem _root_.Go.Proofs.YtikaoikladbdpaaGreat.Wrote.more (h : Wrote F w w') (hs : ∀ g, F g → G g) : Wrote G w w' := ⟨h.os, h.tape, h.output, h.size, fun k hk hn => h.block k hk (fun e => hn (hs k e))⟩
end

def QBx (w : World) (B : Nat) (sp : Option Nat) : Prop := w.heap[B]? = some (.cells #[.pointer (ptrO sp)] 132 (0, 0))
def LBx (w : World) (B : Nat) (ao : Option Addr) (n cap : Nat) : Prop := w.heap[B]? = some (.cells #[.slice ao n cap] 64 (0, 0))
section
variable {w w' : World} {B n cap : Nat} {sp : Option Nat} {ao : Option Addr}
theorem QBx.lt (h : QBx w B sp) : B < w.heap.size := lt_of_block h
theorem QBx.keep (h : QBx w B sp) (hb : w'.heap[B]? = w.heap[B]?) : QBx w' B sp := hb.trans h
theorem QBx.cell (h : QBx w B sp) : w.cell? ⟨B, 0, none⟩ = some (.pointer (ptrO sp)) := by unfold QBx at h; simp [World.cell?, h]
theorem LBx.lt (h : LBx w B ao n cap) : B < w.heap.size := lt_of_block h
theorem LBx.keep (h : LBx w B ao n cap) (hb : w'.heap[B]? = w.heap[B]?) : LBx w' B ao n cap := hb.trans h
theorem LBx.cell (h : LBx w B ao n cap) : w.cell? ⟨B, 0, none⟩ = some (.slice ao n cap) := by unfold LBx at h; simp [World.cell?, h]
end

structure AI (B n cap : Nat) (ao : Option Addr) (os : List (Int × Int)) (sp : Option Nat) (most : Int) (Bs Bo Bt gt : Nat) (row : List (Int × Int)) (items : List Int) (G : Nat → Prop) (W : World) : Prop where
  own : ∀ g, g = Bs ∨ g = Bo ∨ g = Bt ∨ g = gt → G g
  foot : ∀ g, G g → g < W.heap.size
  sb : QBx W Bs sp
  ob : LBx W Bo ao n cap
  tb : SBx W Bt 69 gt n
  rrow : RRow W gt row
  len : row.length = n
  ops : OpsAt W ao n os
  off : 0 < n → ∀ a, ao = some a → ¬ G a.block ∧ a.block < B
  stk : ∃ F, (∀ g, F g → G g) ∧ (∀ g, F g → g ≠ Bs ∧ g ≠ Bo ∧ g ≠ Bt ∧ g ≠ gt) ∧ StkO W F sp most items

section
variable {B n cap : Nat} {ao : Option Addr} {os : List (Int × Int)} {sp : Option Nat} {most : Int} {Bs Bo Bt gt : Nat} {row : List (Int × Int)} {items : List Int} {G L : Nat → Prop} {W W' : World}

theorem AI.ne (h : AI B n cap ao os sp most Bs Bo Bt gt row items G W) : Bs ≠ gt ∧ Bo ≠ gt ∧ Bt ≠ gt := by
  have h1 := h.sb
  have h2 := h.ob
  have h3 := h.tb
  have h4 := h.rrow
  unfold QBx at h1
  unfold LBx at h2
  unfold SBx at h3
  unfold RRow at h4
  refine ⟨?_, ?_, ?_⟩ <;> (rintro rfl; simp_all)

theorem AI.keep (h : AI B n cap ao os sp most Bs Bo Bt gt row items G W) (hw : Wrote L W W') (ha : Apart G L) (hL : ∀ g, L g → B ≤ g) : AI B n cap ao os sp most Bs Bo Bt gt row items G W' := by
  obtain ⟨F, f1, f2, f3⟩ := h.stk
  refine ⟨h.own, fun g hg => Nat.lt_of_lt_of_le (h.foot g hg) hw.size, h.sb.keep (hw.block _ h.sb.lt (ha _ (h.own _ (.inl rfl)))), h.ob.keep (hw.block _ h.ob.lt (ha _ (h.own _ (.inr (.inl rfl))))), h.tb.keep (hw.block _ h.tb.lt (ha _ (h.own _ (.inr (.inr (.inl rfl)))))),
    h.rrow.keep (hw.block _ h.rrow.lt (ha _ (h.own _ (.inr (.inr (.inr rfl)))))), h.len, ?_, h.off, F, f1, f2, f3.apart hw (fun g hg => ha g (f1 g hg))⟩
  refine ⟨h.ops.1, fun hp => ?_⟩
  obtain ⟨b, off, e, hl, hc⟩ := h.ops.2 hp
  have hn : ¬ L b := fun hb => by
    have h1 := hL b hb
    have h2 := (h.off hp _ e).2
    simp only at h2
    omega
  exact ⟨b, off, e, Nat.lt_of_lt_of_le hl hw.size, fun i hi => ⟨(hw.cell (p := ⟨b, _, none⟩) hl hn).trans (hc i hi).1, (hw.cell (p := ⟨b, _, none⟩) hl hn).trans (hc i hi).2⟩⟩

theorem AI.put {a : Addr} {x : Value} {row' : List (Int × Int)} (h : AI B n cap ao os sp most Bs Bo Bt gt row items G W) (ha : a.block = gt) (hr : RRow (W.setCell a x) gt row') (hl : row'.length = n) : AI B n cap ao os sp most Bs Bo Bt gt row' items G (W.setCell a x) := by
  obtain ⟨F, f1, f2, f3⟩ := h.stk
  obtain ⟨n1, n2, n3⟩ := h.ne
  have hw : Wrote (fun g => g = gt) W (W.setCell a x) := (Wrote.refl (fun g => g = gt) W).setCell (q := a) (.inr ha) _
  refine ⟨h.own, fun g hg => Nat.lt_of_lt_of_le (h.foot g hg) hw.size, h.sb.keep (hw.block _ h.sb.lt n1), h.ob.keep (hw.block _ h.ob.lt n2), h.tb.keep (hw.block _ h.tb.lt n3), hr, hl, ?_, h.off, F, f1, f2, f3.apart hw (fun g hg e => (f2 g hg).2.2.2 e)⟩
  refine ⟨h.ops.1, fun hp => ?_⟩
  obtain ⟨b, off, e, hl, hc⟩ := h.ops.2 hp
  have hn : ¬ b = gt := fun hb => (h.off hp _ e).1 (by subst hb; exact h.own _ (.inr (.inr (.inr rfl))))
  exact ⟨b, off, e, Nat.lt_of_lt_of_le hl hw.size, fun i hi => ⟨(hw.cell (p := ⟨b, _, none⟩) hl hn).trans (hc i hi).1, (hw.cell (p := ⟨b, _, none⟩) hl hn).trans (hc i hi).2⟩⟩

theorem AI.did {items' : List Int} (h : AI B n cap ao os sp most Bs Bo Bt gt row items G W) {F : Nat → Prop} (f1 : ∀ g, F g → G g) (f2 : ∀ g, F g → g ≠ Bs ∧ g ≠ Bo ∧ g ≠ Bt ∧ g ≠ gt) (hd : DidO F sp most items' W W') :
    ∃ G', AI B n cap ao os sp most Bs Bo Bt gt row items' G' W' ∧ Wrote G W W' ∧ Later G G' W := by
  obtain ⟨F', s', wr, lt⟩ := hd
  have hs := wr.size
  refine ⟨fun g => G g ∨ (F' g ∧ g < W'.heap.size), ⟨fun g hg => .inl (h.own g hg), fun g hg => ?_, h.sb.keep (wr.block _ h.sb.lt (fun e => (f2 _ e).1 rfl)), h.ob.keep (wr.block _ h.ob.lt (fun e => (f2 _ e).2.1 rfl)), h.tb.keep (wr.block _ h.tb.lt (fun e => (f2 _ e).2.2.1 rfl)), h.rrow.keep (wr.block _ h.rrow.lt (fun e => (f2 _ e).2.2.2 rfl)), h.len, ?_, fun hp a ha => ⟨?_, (h.off hp a ha).2⟩, ?_⟩, wr.more f1, fun g hg => ?_⟩
  · rcases hg with h1 | h1
    · exact Nat.lt_of_lt_of_le (h.foot g h1) hs
    · exact h1.2
  · refine ⟨h.ops.1, fun hp => ?_⟩
    obtain ⟨b, off, e, hl, hc⟩ := h.ops.2 hp
    have hn : ¬ F b := fun hb => (h.off hp _ e).1 (f1 _ hb)
    exact ⟨b, off, e, Nat.lt_of_lt_of_le hl wr.size, fun i hi => ⟨(wr.cell (p := ⟨b, _, none⟩) hl hn).trans (hc i hi).1, (wr.cell (p := ⟨b, _, none⟩) hl hn).trans (hc i hi).2⟩⟩
  · obtain ⟨b, off, e, hl, _⟩ := h.ops.2 hp
    have hG := (h.off hp a ha).1
    rw [e] at ha
    injection ha with ha
    subst ha
    rintro (h1 | h1)
    · exact hG h1
    · rcases lt _ h1.1 with h2 | h2
      · exact hG (f1 _ h2)
      · simp only at h2; omega
  · refine ⟨fun g => F' g ∧ g < W'.heap.size, fun g hg => .inr hg, fun g hg => ?_, ?_⟩
    · rcases lt g hg.1 with h2 | h2
      · exact f2 g h2
      · have := h.sb.lt
        have := h.ob.lt
        have := h.tb.lt
        have := h.rrow.lt
        refine ⟨?_, ?_, ?_, ?_⟩ <;> omega
    · cases sp with
      | none => exact s'
      | some p =>
        obtain ⟨v, m, k2, k3, k4⟩ := s'
        exact ⟨v, m, ⟨k2, k4 p k2⟩, fun g hg => ⟨k3 g hg, k4 g (k3 g hg)⟩, fun g hg => hg.2⟩
  · rcases hg with h1 | h1
    · exact .inl h1
    · rcases lt g h1.1 with h2 | h2
      · exact .inl (f1 g h2)
      · exact .inr h2

theorem AI.fresh (h : AI B n cap ao os sp most Bs Bo Bt gt row items G W) (hb : Below W.heap.size W W') : AI B n cap ao os sp most Bs Bo Bt gt row items G W' := h.keep (Wrote.of hb (fun _ => False)) (fun _ _ h => h) (fun _ h => h.elim)

def APost (B n cap : Nat) (ao : Option Addr) (os : List (Int × Int)) (sp : Option Nat) (most : Int) (Bs Bo Bt gt : Nat) (row : List (Int × Int)) (items : List Int) (G : Nat → Prop) (W W' : World) : Prop :=
  ∃ G', AI B n cap ao os sp most Bs Bo Bt gt row items G' W' ∧ Wrote G W W' ∧ Later G G' W
theorem AI.pop {y : Int} (h : AI B n cap ao os sp most Bs Bo Bt gt row (items ++ [y]) G W) :
    Calls Tryz.prog 166 #[.pointer (ptrO sp)] W fun e w' => e = .returned (.tuple #[.int .i32 y, .bool true]) ∧ APost B n cap ao os sp most Bs Bo Bt gt row items G W w' := by
  obtain ⟨F, f1, f2, f3⟩ := h.stk
  exact (popO y f3).mono fun e w' ⟨he, d⟩ => ⟨he, h.did f1 f2 d⟩
theorem AI.push (h : AI B n cap ao os sp most Bs Bo Bt gt row items G W) (x : Int) (hf : (items.length : Int) < most) :
    Calls Tryz.prog 168 #[.pointer (ptrO sp), .int .i32 x] W fun e w' => e = .returned (.bool true) ∧ APost B n cap ao os sp most Bs Bo Bt gt row (items ++ [x]) G W w' := by
  obtain ⟨F, f1, f2, f3⟩ := h.stk
  exact (pushO f3 x hf).mono fun e w' ⟨he, d⟩ => ⟨he, h.did f1 f2 d⟩
theorem APost.from {V : World} (hb : Below W.heap.size W V) (h : APost B n cap ao os sp most Bs Bo Bt gt row items G V W') : APost B n cap ao os sp most Bs Bo Bt gt row items G W W' := by
  obtain ⟨G', a, w, l⟩ := h
  exact ⟨G', a, (Wrote.of hb G).trans w, (Later.refl G W).trans l hb.size⟩
theorem APost.tell (h : APost B n cap ao os sp most Bs Bo Bt gt row items G W W') (k : Nat) (x : Int) : APost B n cap ao os sp most Bs Bo Bt gt (row.set k ((row.getD k (0, 0)).1, x)) items G W (W'.setCell ⟨gt, k * 2 + 1, none⟩ (.int .i32 x)) := by
  obtain ⟨G', a, w, l⟩ := h
  exact ⟨G', a.put rfl (a.rrow.setV k x) (by simp [a.len]), w.step l ((Wrote.refl G' W').setCell (q := ⟨gt, k * 2 + 1, none⟩) (.inr (a.own _ (.inr (.inr (.inr rfl))))) _), l⟩

theorem acode (h : AI B n cap ao os sp most Bs Bo Bt gt row items G W) {k : Nat} (hk : k < n) :
    Calls Tryz.prog 163 #[.int .i64 k, .pointer (some ⟨Bt, 0, none⟩)] W fun e w' => e = .returned (.pointer (some ⟨gt, k * 2, none⟩)) ∧ W = w' := by
  have c := h.tb.cell
  have i1 : (k : Int) < (n : Int) := by omega
  clear h
  go_enter Tryz.func163, Tryz.ntmps163
  go_wp2
  go_ret
  exact ⟨rfl, rfl⟩

set_option maxRecDepth 100000 in
set_option maxHeartbeats 1600000 in
theorem ameet (h : AI B n cap ao os sp most Bs Bo Bt gt row items G W) {k j : Nat} (hk : k < n) (hj : j < n) :
    Calls Tryz.prog 164 #[.int .i64 k, .int .i64 j, .pointer (some ⟨Bo, 0, none⟩), .pointer (some ⟨Bt, 0, none⟩)] W fun e w' => e = .returned (.tuple #[]) ∧ ∃ q, w' = (W.drewN q).setCell ⟨gt, k * 2 + 1, none⟩ (.int .i32 (valOf os j)) := by
  have c1 := h.tb.cell
  have c2 := h.ob.cell
  obtain ⟨b, off, rfl, bl, hc⟩ := h.ops.2 (by omega)
  have c3 := (hc j hj).2
  have c4 := (h.rrow.cells (i := k) (by rw [h.len]; exact hk)).2
  have f4 := h.rrow.free (k * 2 + 1)
  have HV := Lib.hid (show valOf os (j : Int) = (os.getD j (0, 0)).2 by simp [valOf])
  rw [HV.out]
  generalize (os.getD j (0, 0)).2 = x at *
  generalize (row.getD k (0, 0)).2 = z at *
  have i1 : (k : Int) < (n : Int) := by omega
  have i2 : (j : Int) < (n : Int) := by omega
  clear h hc bl HV
  go_enter Tryz.func164, Tryz.ntmps164
  go_wp2
  go_still_tail 9, (by kernel_rfl)
  clear c1 c2 c3
  have c5 : W.drew.cell? ⟨gt, k * 2 + 1, none⟩ = some (.int .i32 z) := c4
  have f5 : W.drew.frozen? ⟨gt, k * 2 + 1, none⟩ = false := f4
  clear c4 f4
  change wpList _ _ _ _ _ W.drew
  have HW := Lib.hid (show W.drew = W.drewN 1 from rfl)
  generalize W.drew = W2 at *
  go_wp2
  go_end0
  exact ⟨rfl, 1, by rw [← HW.out]⟩

set_option maxRecDepth 100000 in
set_option maxHeartbeats 1600000 in
theorem atake {y : Int} (h : AI B n cap ao os sp most Bs Bo Bt gt row (items ++ [y]) G W) {k : Nat} (hk : k < n) :
    Calls Tryz.prog 165 #[.int .i64 k, .pointer (some ⟨Bs, 0, none⟩), .pointer (some ⟨Bt, 0, none⟩)] W fun e w' => e = .returned (.tuple #[]) ∧ APost B n cap ao os sp most Bs Bo Bt gt (row.set k ((row.getD k (0, 0)).1, y)) items G W w' := by
  have c1 := h.tb.cell
  have c2 := h.sb.cell
  have i1 : (k : Int) < (n : Int) := by omega
  have hbd : Below W.heap.size W W.drew := (Below.refl _ _).drew
  have C := (h.fresh hbd).pop
  have HB := Lib.hid hbd
  have HL := Lib.hid h.len
  clear h hbd
  go_enter Tryz.func165, Tryz.ntmps165
  go_wp2
  go_region_held3 (fun w' => w'.cell? ⟨Bt, 0, none⟩ = some (.slice (some ⟨gt, 0, none⟩) n n) ∧ w'.cell? ⟨Bs, 0, none⟩ = some (.pointer (ptrO sp))) (first | exact ⟨c1, c2⟩ | exact ⟨h1, h2⟩ | exact ⟨cellOther _ n1 h1, cellOther _ n2 h2⟩) (((with_reducible refine C.mono ?_); rintro e w6 ⟨rfl, p6⟩; obtain ⟨h1, h2, h3, h4, n1, n2⟩ := (show w6.cell? ⟨Bt, 0, none⟩ = some (.slice (some ⟨gt, 0, none⟩) n n) ∧ w6.cell? ⟨Bs, 0, none⟩ = some (.pointer (ptrO sp)) ∧ (∃ z, w6.cell? ⟨gt, k * 2 + 1, none⟩ = some (.int .i32 z)) ∧ w6.frozen? ⟨gt, k * 2 + 1, none⟩ = false ∧ Bt ≠ gt ∧ Bs ≠ gt from (by obtain ⟨G', a, _, _⟩ := id p6; exact ⟨a.tb.cell, a.sb.cell, ⟨_, (a.rrow.cells (i := k) (by rw [a.len]; exact hk)).2⟩, a.rrow.free _, a.ne.2.2, a.ne.1⟩)); obtain ⟨z6, h3⟩ := h3; have H6 := Lib.hid p6; clear p6))
  all_goals
    go_wp2
    go_end0
    exact ⟨rfl, (APost.from HB.out H6.out).tell k y⟩

set_option maxRecDepth 100000 in
set_option maxHeartbeats 1600000 in
theorem astay (h : AI B n cap ao os sp most Bs Bo Bt gt row items G W) {j : Nat} (hj : j < n) (hf : (items.length : Int) < most) :
    Calls Tryz.prog 167 #[.int .i64 j, .pointer (some ⟨Bs, 0, none⟩), .pointer (some ⟨Bo, 0, none⟩)] W fun e w' => e = .returned (.tuple #[]) ∧ APost B n cap ao os sp most Bs Bo Bt gt row (items ++ [valOf os j]) G W w' := by
  have c1 := h.sb.cell
  have c2 := h.ob.cell
  obtain ⟨b, off, rfl, bl, hc⟩ := h.ops.2 (by omega)
  have c3 := (hc j hj).2
  have HV := Lib.hid (show valOf os (j : Int) = (os.getD j (0, 0)).2 by simp [valOf])
  rw [HV.out]
  generalize (os.getD j (0, 0)).2 = x at *
  have i2 : (j : Int) < (n : Int) := by omega
  have hbd : Below W.heap.size W W.drew := (Below.refl _ _).drew
  have C := (h.fresh hbd).push x hf
  have HB := Lib.hid hbd
  clear h hc bl HV hbd
  go_enter Tryz.func167, Tryz.ntmps167
  go_wp2
  go_still_tail 6, (by kernel_rfl)
  clear c1 c2 c3
  change wpList _ _ _ _ _ W.drew
  generalize W.drew = W2 at *
  go_wp2_with fail
  refine C.mono ?_
  clear C
  rintro e w6 ⟨rfl, p6⟩
  have H6 := Lib.hid p6
  clear p6
  go_wp2
  go_end0
  exact ⟨rfl, APost.from HB.out H6.out⟩

end
end Go.Proofs.YtikaoikladbdpaaGreat.K9
namespace Go.Proofs.YtikaoikladbdpaaGreat.K9
open Go.RowKit

section
variable {B n cap : Nat} {ao : Option Addr} {os : List (Int × Int)} {sp : Option Nat} {most : Int} {Bs Bo Bt gt : Nat} {zs : List Int}

theorem line_same {ks : Nat → Int} {t : Int} {k : Nat} (hno : ks k = 2 → (lineAt most t ks k).2 = [] ∧ ¬ 0 < (lineAt most t ks k).1) : (lineAt most t ks (k + 1)).1 = (lineAt most t ks k).1 := by
  simp only [lineAt, lineStep]
  split
  · split <;> rfl
  · split
    · rename_i h2
      obtain ⟨h3, h4⟩ := hno h2
      simp [h3, h4]
    · rfl

theorem applyHooks (hz : (zs.length : Int) ≤ most) (hm : most ≤ 1000) :
    Hooks B n most zs.length (kindsOf os) 163 164 165 167 #[.pointer (some ⟨Bt, 0, none⟩)] #[.pointer (some ⟨Bo, 0, none⟩), .pointer (some ⟨Bt, 0, none⟩)] #[.pointer (some ⟨Bs, 0, none⟩), .pointer (some ⟨Bt, 0, none⟩)] #[.pointer (some ⟨Bs, 0, none⟩), .pointer (some ⟨Bo, 0, none⟩)] (fun k => ⟨gt, k * 2, none⟩)
      (fun k G W => k ≤ n ∧ AI B n cap ao os sp most Bs Bo Bt gt (resK most zs os n k) (zs.take (lineAt most zs.length (kindsOf os) k).1.toNat) G W)
      (fun k G W => k ≤ n ∧ AI B n cap ao os sp most Bs Bo Bt gt (resV most zs os n k) (zs.take (lineAt most zs.length (kindsOf os) (k + 1)).1.toNat) G W)
      (fun j G W => AI B n cap ao os sp most Bs Bo Bt gt (resK most zs os n n) (zs.take (lineAt most zs.length (kindsOf os) n).1.toNat ++ ((lineAt most zs.length (kindsOf os) n).2.take j).map (valOf os)) G W) := by
  refine ⟨enters_of Tryz.func163 (by kernel_rfl) rfl, enters_of Tryz.func164 (by kernel_rfl) rfl, enters_of Tryz.func165 (by kernel_rfl) rfl, enters_of Tryz.func167 (by kernel_rfl) rfl, by omega, hz, hm,
    fun k G W h => h.2.foot, fun k G W h => h.2.foot, fun k G W h => h.foot, fun k G L W W' h hw ha hB => ⟨h.1, h.2.keep hw ha hB⟩, fun k G L W W' h hw ha hB => ⟨h.1, h.2.keep hw ha hB⟩, fun k G L W W' h hw ha hB => h.keep hw ha hB, ?_, ?_, ?_, ?_, ?_, ?_, ?_, ?_⟩
  · intro k G W h hk
    exact acode h.2 hk
  · intro k G W j ys h hk hkd hs
    have ho := lineAt_ok (show (0 : Int) ≤ zs.length by omega) hz (kindsOf os) k
    have hj := ho.places j (by rw [hs]; simp)
    obtain ⟨i, rfl⟩ : ∃ i : Nat, j = i := ⟨j.toNat, by omega⟩
    refine (ameet h.2 hk (show i < n by omega)).mono ?_
    rintro e w' ⟨he, q, rfl⟩
    have a := h.2.fresh (below_drewN (Below.refl _ _) q)
    have hv := line_meet hz hkd hs
    have hw := (Wrote.refl G (W.drewN q)).setCell (q := ⟨gt, k * 2 + 1, none⟩) (.inr (a.own _ (.inr (.inr (.inr rfl))))) (.int .i32 (valOf os i))
    refine ⟨he, G, ⟨h.1, ?_⟩, (Wrote.of (below_drewN (Below.refl W.heap.size W) q) G).trans hw, Later.refl _ _⟩
    have e1 : (lineAt most zs.length (kindsOf os) (k + 1)).1 = (lineAt most zs.length (kindsOf os) k).1 := by
      simp only [lineAt, lineStep, hkd, if_neg (show ¬ (2 : Int) = 1 by omega), if_true, hs]
      rw [if_neg (by simp)]
    rw [e1, ← resV_set hk, hv]
    exact a.put rfl (a.rrow.setV k (valOf os i)) (by simp [a.len])
  · intro k G W h hk hkd hs ht
    obtain ⟨m, hm⟩ : ∃ m : Nat, (lineAt most zs.length (kindsOf os) k).1 = ((m + 1 : Nat) : Int) := ⟨(lineAt most zs.length (kindsOf os) k).1.toNat - 1, by omega⟩
    obtain ⟨hv, hml⟩ := line_take hz hkd hs hm
    have a := h.2
    rw [hm, show ((m + 1 : Nat) : Int).toNat = m + 1 by omega, take_pred hml] at a
    have e1 : (lineAt most zs.length (kindsOf os) (k + 1)).1 = (m : Int) := by
      simp only [lineAt, lineStep, hkd, if_neg (show ¬ (2 : Int) = 1 by omega), if_true, if_pos hs, if_pos ht]
      rw [hm]
      omega
    refine (atake a hk).mono ?_
    rintro e w' ⟨he, G', p, wr, lt⟩
    refine ⟨he, G', ⟨h.1, ?_⟩, wr, lt⟩
    rw [e1, Int.toNat_natCast, ← resV_set hk, hv]
    exact p
  · intro k G W h hk hno
    refine ⟨h.1, ?_⟩
    rw [line_same hno, resV_idle hk (line_idle hz hno)]
    exact h.2
  · intro k G W h hk
    exact ⟨⟨_, (h.2.rrow.cells (i := k) (by rw [h.2.len]; exact hk)).1⟩, h.2.rrow.free _, h.2.own _ (.inr (.inr (.inr rfl)))⟩
  · intro k G W h hk
    refine ⟨hk, ?_⟩
    rw [line_code hz k, ← resV_put hk]
    exact h.2.put rfl (h.2.rrow.set1 k (codeAt most zs os k)) (by simp [h.2.len])
  · intro G W h
    simpa using h.2
  · intro j G W x h hx
    have ho := lineAt_ok (show (0 : Int) ≤ zs.length by omega) hz (kindsOf os) n
    obtain ⟨hjl, hxj⟩ := List.getElem?_eq_some_iff.1 hx
    have hb := ho.places x (by rw [← hxj]; exact List.getElem_mem hjl)
    obtain ⟨i, rfl⟩ : ∃ i : Nat, x = i := ⟨x.toNat, by omega⟩
    refine (astay h (show i < n by omega) (by
      have := ho.room
      have := ho.low
      have := ho.high
      simp only [List.length_append, List.length_take, List.length_map]
      omega)).mono ?_
    rintro e w' ⟨he, G', p, wr, lt⟩
    refine ⟨he, G', ?_, wr, lt⟩
    rw [List.take_succ_eq_append_getElem hjl, hxj, List.map_append, ← List.append_assoc]
    exact p
end

def ApplyPost (w : World) (F : Nat → Prop) (sp : Option Nat) (most : Int) (zs : List Int) (os : List (Int × Int)) (n : Nat) (e : Ending) (w' : World) : Prop :=
  ∃ gt F', e = .returned (.slice (some ⟨gt, 0, none⟩) n n) ∧ RRow w' gt (resL most zs os n) ∧ StkO w' F' sp most (itemsAt most zs os n) ∧ Wrote F w w' ∧ Later F F' w ∧ w.heap.size ≤ gt ∧ ¬ F' gt

theorem lbxNew {V0 : World} (x : Option Addr) (w : World) (ao : Option Addr) (n cap : Nat) (hV0 : (w.alloc (.cells #[.pointer x] 132)).alloc (.cells #[.slice ao n cap] 64) = V0) : LBx V0 (w.heap.size + 1) ao n cap := by
  rw [← hV0]
  have := heap_alloc_new (w.alloc (.cells #[.pointer x] 132)) (.cells #[.slice ao n cap] 64)
  simpa [LBx] using this
theorem applyDone {w V w' : World} {F G' : Nat → Prop} {sp : Option Nat} {most : Int} {zs : List Int} {os : List (Int × Int)} {n cap B Bs Bo Bt gt : Nat} {ao : Option Addr} (hz : (zs.length : Int) ≤ most) (hb : Below w.heap.size w V) (hg : w.heap.size ≤ gt)
    (a : AI B n cap ao os sp most Bs Bo Bt gt (resK most zs os n n) (zs.take (lineAt most zs.length (kindsOf os) n).1.toNat ++ ((lineAt most zs.length (kindsOf os) n).2.take (lineAt most zs.length (kindsOf os) n).2.length).map (valOf os)) G' w')
    (hw : Wrote (fun g => F g ∨ (w.heap.size ≤ g ∧ g < V.heap.size)) V w') (hl : Later (fun g => F g ∨ (w.heap.size ≤ g ∧ g < V.heap.size)) G' V) : ApplyPost w F sp most zs os n (.returned (.slice (some ⟨gt, 0, none⟩) n n)) w' := by
  obtain ⟨F', f1, f2, f3⟩ := a.stk
  have hr := a.rrow
  rw [resK_all] at hr
  rw [List.take_length] at f3
  have hI := line_items (os := os) hz n
  unfold lineItems at hI
  rw [← hI] at f3
  have hs := hb.size
  refine ⟨gt, F', rfl, hr, f3, ⟨hw.os.trans hb.os, hw.tape.trans hb.tape, hw.output.trans hb.output, Nat.le_trans hs hw.size, fun k hk hn => ?_⟩, fun g hg' => ?_, hg, fun h => (f2 gt h).2.2.2 rfl⟩
  · refine (hw.block k (by omega) ?_).trans (hb.block k hk)
    rintro (h1 | h1)
    · exact hn h1
    · omega
  · rcases hl g (f1 g hg') with (h1 | h1) | h1
    · exact .inl h1
    · exact .inr h1.1
    · exact .inr (by omega)

theorem applyStart {w w2 V0 V : World} {F : Nat → Prop} {sp : Option Nat} {most : Int} {zs : List Int} {ao : Option Addr} {n cap : Nat} {os : List (Int × Int)} (h : StkO w F sp most zs) (hF : ∀ g, F g → g < w.heap.size) (ho : OpsAt w ao n os) (hoff : 0 < n → Off F ao)
    (hV0 : (w.alloc (.cells #[.pointer (ptrO sp)] 132)).alloc (.cells #[.slice ao n cap] 64) = V0) (hr : RRow w2 V0.heap.size (List.replicate n (0, 0))) (hb2 : Below V0.heap.size V0 w2) (hV : w2.alloc (.cells #[.slice (some ⟨V0.heap.size, 0, none⟩) n n] 69) = V) :
    AI V.heap.size n cap ao os sp most w.heap.size (w.heap.size + 1) w2.heap.size V0.heap.size (resK most zs os n 0) zs (fun g => F g ∨ (w.heap.size ≤ g ∧ g < V.heap.size)) V ∧ Below w.heap.size w V := by
  have hz0 : V0.heap.size = w.heap.size + 2 := by rw [← hV0]; simp
  have hzV : V.heap.size = w2.heap.size + 1 := by rw [← hV]; simp
  have hl2 := hr.lt
  have hb0 : Below w.heap.size w V0 := by rw [← hV0]; exact ((Below.refl _ _).alloc (Nat.le_refl _) _).alloc (by simp) _
  have hbV : Below w2.heap.size w2 V := by rw [← hV]; exact (Below.refl _ _).alloc (Nat.le_refl _) _
  have h0V : Below V0.heap.size V0 V := hb2.trans (hbV.mono (by omega))
  have hwV : Below w.heap.size w V := hb0.trans (h0V.mono (by omega))
  have q0 : QBx V0 w.heap.size sp := by
    rw [← hV0]
    exact (Below.heap_alloc _ _ _ (by simp)).trans (heap_alloc_new w _)
  have l0 : LBx V0 (w.heap.size + 1) ao n cap := by
    rw [← hV0]
    have := heap_alloc_new (w.alloc (.cells #[.pointer (ptrO sp)] 132)) (.cells #[.slice ao n cap] 64)
    simpa [LBx] using this
  refine ⟨⟨?_, fun g hg => ?_, q0.keep (h0V.block _ q0.lt), l0.keep (h0V.block _ l0.lt), by rw [← hV]; exact SBx.new _ _ _ _, ?_, by rw [resK_length (Nat.zero_le _)], ho.keep hwV, fun hp a ha => ?_, F, fun g hg => .inl hg, fun g hg => ?_, h.fresh hwV⟩, hwV⟩
  · rintro g (rfl | rfl | rfl | rfl) <;> (refine .inr ⟨?_, ?_⟩ <;> omega)
  · rcases hg with hg | hg
    · have := hF g hg; omega
    · exact hg.2
  · rw [resK_none]
    exact hr.keep (hbV.block _ hl2)
  · obtain ⟨b, off, e, hl, _⟩ := ho.2 hp
    have hn := hoff hp a ha
    rw [e] at ha
    injection ha with ha
    subst ha
    refine ⟨?_, show b < V.heap.size by omega⟩
    rintro (h1 | h1)
    · exact hn h1
    · exact absurd h1.1 (show ¬ w.heap.size ≤ b by omega)
  · have := hF g hg
    refine ⟨?_, ?_, ?_, ?_⟩ <;> omega

set_option maxRecDepth 100000 in
set_option maxHeartbeats 8000000 in
theorem applyAny {w : World} {F : Nat → Prop} {sp : Option Nat} {most : Int} {zs : List Int} (h : StkO w F sp most zs) (hF : ∀ g, F g → g < w.heap.size) (ao : Option Addr) (n cap : Nat) (os : List (Int × Int)) (ho : OpsAt w ao n os) (hoff : 0 < n → Off F ao) (hn : n ≤ 1000000) :
    Calls Tryz.prog 158 #[.pointer (ptrO sp), .slice ao n cap] w (ApplyPost w F sp most zs os n) := by
  obtain ⟨j0, hj, hy0, hy1, hy2⟩ := info_parts infoRes
  obtain ⟨hz, h0, hm⟩ := h.room
  obtain ⟨V0, hV0⟩ : ∃ V0, (w.alloc (.cells #[.pointer (ptrO sp)] 132)).alloc (.cells #[.slice ao n cap] 64) = V0 := ⟨_, rfl⟩
  have HS := Lib.hid (fun w2 V hr hb2 hV => applyStart h hF ho hoff hV0 (w2 := w2) (V := V) hr hb2 hV)
  have HV0 := Lib.hid hV0
  have c0 := (lbxNew (ptrO sp) w ao n cap hV0).cell
  clear h hF ho hoff hV0
  go_enter Tryz.func158, Tryz.ntmps158
  go_upto_region 1 with (fail)
  rw [HV0.out]
  go_upto_region 2 with (at_make; refine wpList_make_full _ rfl _ _ 69 rfl V0.heap.size 74 j0 _ 2 Tryz.underlying69 hj hy0 hy1 .i64 .i64 _ _ n rfl rfl rfl rfl (by rw [hy2]; omega) (by simp only [maxLen]; omega) (Nat.le_refl _) ?_; intro w2 hown2 hgrow2; have HM := Lib.hid (madeRes hown2 hgrow2); clear hown2 hgrow2)
  generalize hV : w2.alloc (.cells #[.slice (some ⟨V0.heap.size, 0, none⟩) n n] 69) = V
  obtain ⟨a, hbV⟩ := HS.out w2 V HM.out.1 HM.out.2 hV
  have hg : w.heap.size ≤ V0.heap.size := by rw [← HV0.out]; simp; omega
  have HG := Lib.hid hg
  have HB := Lib.hid hbV
  clear hV HS HM c0 HV0 hg hbV
  generalize w2.heap.size = Bt at *
  generalize V0.heap.size = gt at *
  have c1 := a.sb.cell
  have c2 := a.ob.cell
  have c3 := a.tb.cell
  have a' := a.fresh (Below.refl _ _).drew
  obtain ⟨F1, _, _, f3⟩ := a'.stk
  have L := (lenO f3).mono (fun _ _ h => (⟨h.1, h.2.symm⟩ : _ ∧ _ = V.drew))
  have M := (mostO f3).mono (fun _ _ h => (⟨h.1, h.2.symm⟩ : _ ∧ _ = V.drew))
  have C0 := throughAny (applyHooks (B := V.heap.size) (Bs := w.heap.size) (Bo := w.heap.size + 1) (Bt := Bt) (gt := gt) (n := n) (cap := cap) (ao := ao) (os := os) (sp := sp) hz hm) ao cap os a'.ops (fun hp x hx => (a'.off hp x hx).1) (fun _ _ => rfl) hn (Nat.le_refl _) ⟨Nat.zero_le _, by simpa [lineAt] using a'⟩
  unfold tellsV at C0
  have C := C0.mono (fun e w6 ⟨he, G', p, wr, lt⟩ => (⟨he, p.tb.cell, applyDone hz HB.out.drew HG.out p wr lt⟩ : e = Ending.returned (Value.tuple #[]) ∧ w6.cell? ⟨Bt, 0, none⟩ = some (Value.slice (some ⟨gt, 0, none⟩) n n) ∧ ApplyPost w F sp most zs os n (Ending.returned (Value.slice (some ⟨gt, 0, none⟩) n n)) w6))
  clear a a' f3 C0
  refine wp_region_still_tail 10 (by kernel_rfl) (by kernel_rfl) ?_
  simp only [List.take_succ_cons, List.take_zero, List.drop_succ_cons, List.drop_zero]
  still_step
  still_call L
  still_step
  still_call M
  repeat still_step
  refine wpStill_nil ?_
  clear c1 c2 c3 L M
  change wpList _ _ _ _ _ V.drew
  generalize V.drew = V2 at *
  go_wp2_with fail
  refine C.mono ?_
  clear C
  rintro e w6 ⟨rfl, h3, p6⟩
  have H6 := Lib.hid p6
  clear p6
  go_wp2
  go_ret
  exact H6.out

end Go.Proofs.YtikaoikladbdpaaGreat.K9
