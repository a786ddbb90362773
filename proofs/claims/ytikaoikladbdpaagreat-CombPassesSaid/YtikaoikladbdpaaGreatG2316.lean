/-
  What Load, At, Store and Swap of the document's memory tell. Conditions: at most 1000 cells, steps below a million. Contracts of package record: See (with the piece that becomes an array), Waits, Told. Conditions: a memory as Mem1 says. The calls of package cells where only the number of cells and the steps are looked at. Conditions: a memory as MemL says; steps below a million. The chapter's example (reaperlaw13.known) is told; and a call on a memory of records where only their number is looked at. Conditions: none. A record, a result, equals itself; the word of what is told tells it. Conditions: none. What a call on a memory leaves of all blocks that are neither a memory nor a list of int64: it is as it was. Conditions: a memory as Mem1 says; steps below a million. A memory beside a list of int64 of one's own that is not the memory's own row; numbers set one behind the other. Conditions: a memory as Mem says. What a call on a memory tells whatever the address is: Load, Store, Swap and Alloc of five cells, the program's and the document's; threads in plain numbers, and what a step makes of one. Conditions: a memory as Mem says; steps below a million. What a step of who serves makes of a thread, of its batch and of the cells, in plain numbers (package comb; but place 36, where the object comes in). Conditions: none; no Go function is looked at here. A thread in a block of its own, its batch (a list of items), a document's memory beside it. Conditions: none; no Go function is looked at here. A turn (package comb) in a block of its own beside the memory it steps at. Conditions: none; no Go function is looked at here. Contracts of the document's own answers for words (package reaperref01): OfOp and OfRes answer the pair or nothing; each leaves all old memory as it was.
-/
import Derived.Test.YtikaoikladbdpaaGreatG2216
import Derived.Test.YtikaoikladbdpaaGreatG0116
import Derived.BigRegion
namespace Go.Proofs.YtikaoikladbdpaaGreat.M2
open Go.RowKit

section
variable {w : World} {B : Nat} {u : Value} {size : Int} {zs : List Int} {st : Int}

set_option maxRecDepth 100000 in
set_option maxHeartbeats 1600000 in
theorem refStoreIn (h : w.ownsRow B 2 1 u zs.length (zs.map (Value.int .i64))) (hB : B ≤ w.heap.size) (a x : Int) (h0 : 0 ≤ a) (h1 : a < zs.length) (hl : zs.length ≤ 1000) (k0 : 0 ≤ st) (k1 : st < 1000000) :
    Calls Tryz.prog 44 #[.agg #[.int .i64 size, u, .int .i64 st], .int .i64 a, .int .i64 x] w fun e w' => ∃ u', e = .returned (.tuple #[.agg #[.int .i64 size, u', .int .i64 (st + 1)], .int .i64 0]) ∧ Left w B u (zs.set a.toNat x) u' w' := by
  obtain ⟨g, cap, rfl, hgl⟩ := own_row h (by omega)
  go_enter Tryz.func44, Tryz.ntmps44
  go_wp2_with fail
  generalize hW : (w.alloc (.cells #[.int .i64 size, .slice (some ⟨g, 0, none⟩) zs.length cap, .int .i64 st] 41)).alloc (.cells #[.int .i64 0, .slice none 0 0, .int .i64 0] 41) = W
  obtain ⟨X0, X1, hb0⟩ := begun w _ _ _ W hW
  clear hW
  refine (hasIn (some ⟨g, 0, none⟩) zs.length cap size st a W h0 h1).mono ?_
  rintro e w1 ⟨rfl, b1⟩
  have HY0 := Lib.hid (X0.keep b1)
  have HY1 := Lib.hid (X1.keep b1)
  have HB1 := Lib.hid (hb0.trans (b1.mono hb0.size))
  have HO1 := Lib.hid (own_keep (own_keep h hb0) b1)
  clear X0 X1 b1 h
  have d0 := HY0.out.c0
  have d1 := HY0.out.c1
  have d2 := HY0.out.c2
  have df := HY0.out.f
  have e0 := HY1.out.c0
  have e1 := HY1.out.c1
  have e2 := HY1.out.c2
  have ef := HY1.out.f
  clear hb0
  go_wp2_with fail
  refine (freshAny size st HO1.out hl).mono ?_
  rintro e w2 ⟨u2, rfl, ho2, b2⟩
  obtain ⟨g2, cap2, rfl, hg2⟩ := own_row ho2 (by omega)
  have hN := Nat.lt_of_lt_of_le HY1.out.lt b2.size
  have HX1 := Lib.hid (HY1.out.keep b2)
  have HB2 := Lib.hid (HB1.out.trans (b2.mono HB1.out.size))
  have HO2 := Lib.hid ho2
  have HZ1 := Lib.hid HB1.out.size
  clear b2 ho2 HY0 HY1 HO1 HB1 d0 d1 d2 df e0 e1 e2 ef
  have hN1 : ¬ w2.heap.size = w.heap.size + 1 := by omega
  have hN2 : ¬ w.heap.size + 1 = w2.heap.size := by omega
  go_upto_region 4 with (fail)
  generalize hW3 : w2.alloc (.cells #[.int .i64 size, .slice (some ⟨g2, 0, none⟩) zs.length cap2, .int .i64 st] 41) = W3
  have HX3 := Lib.hid (show Boxed W3 w2.heap.size (.int .i64 size) (.slice (some ⟨g2, 0, none⟩) zs.length cap2) (.int .i64 st) by subst hW3; exact Boxed.new _ _ _ _)
  have HX1' := Lib.hid (show Boxed W3 (w.heap.size + 1) (.int .i64 0) (.slice none 0 0) (.int .i64 0) by subst hW3; exact HX1.out.alloc _)
  have HB3 := Lib.hid (show Below w.heap.size w W3 by subst hW3; exact HB2.out.alloc HB2.out.size _)
  have HO3 := Lib.hid (show W3.ownsRow w1.heap.size 2 1 (.slice (some ⟨g2, 0, none⟩) zs.length cap2) zs.length (zs.map (Value.int .i64)) by subst hW3; exact HO2.out.alloc _)
  clear hW3 HX1 HO2 HB2
  have g3 := own_ne_boxed HO3.out HX3.out
  have g1 := own_ne_boxed HO3.out HX1'.out
  simp only [Value.ownBlock, ne_eq, Option.some.injEq] at g3 g1
  have g3' : ¬ w2.heap.size = g2 := fun e => g3 e.symm
  have g1' : ¬ w.heap.size + 1 = g2 := fun e => g1 e.symm
  have d0 := HX3.out.c0
  have d1 := HX3.out.c1
  have d2 := HX3.out.c2
  have df := HX3.out.f
  have e0 := HX1'.out.c0
  have e1 := HX1'.out.c1
  have e2 := HX1'.out.c2
  have ef := HX1'.out.f
  obtain ⟨cc, cf⟩ := own_cell HO3.out h0 h1
  have hg2b : w.heap.size ≤ g2 := Nat.le_trans HZ1.out (HO3.out.lt g2 rfl).1
  go_wp2
  have Z := (((((HX1'.out.other (q := ⟨g2, a.toNat, none⟩) (by simpa using g1) (.int .i64 x)).other (q := ⟨w2.heap.size, 2, none⟩) (by simp; omega) (.int .i64 (st + 1))).set0 (.int .i64 size)).set1 (.slice (some ⟨g2, 0, none⟩) zs.length cap2)).set2 (.int .i64 (st + 1)))
  have O := own_le (ownsRow_setCell_other (a := ⟨w.heap.size + 1, 2, none⟩) (ownsRow_setCell_other (a := ⟨w.heap.size + 1, 1, none⟩) (ownsRow_setCell_other (a := ⟨w.heap.size + 1, 0, none⟩) (ownsRow_setCell_other (a := ⟨w2.heap.size, 2, none⟩) (HO3.out.stored a.toNat (.int .i64 x)).1 (by simpa [Value.ownBlock] using g3) (.int .i64 (st + 1))) (by simpa [Value.ownBlock] using g1) (.int .i64 size)) (by simpa [Value.ownBlock] using g1) (.slice (some ⟨g2, 0, none⟩) zs.length cap2)) (by simpa [Value.ownBlock] using g1) (.int .i64 (st + 1))) (Nat.le_trans hB HZ1.out)
  refine bodyPost_ret (v := .tuple #[.agg #[.int .i64 size, .slice (some ⟨g2, 0, none⟩) zs.length cap2, .int .i64 (st + 1)], .int .i64 0]) (by simp [results, Tryz.results44, go_sem, Z.c0, Z.c1, Z.c2]) rfl ⟨_, rfl, ?_, ?_, ?_⟩
  · simpa [List.map_set] using O
  · exact fun g hg => .inr (by simp only [Value.ownBlock, Option.some.injEq] at hg; omega)
  · exact (((((HB3.out.setCell (p := ⟨g2, a.toNat, none⟩) hg2b _).setCell (p := ⟨w2.heap.size, 2, none⟩) (by simp; omega) _).setCell (p := ⟨w.heap.size + 1, 0, none⟩) (by simp) _).setCell (p := ⟨w.heap.size + 1, 1, none⟩) (by simp) _).setCell (p := ⟨w.heap.size + 1, 2, none⟩) (by simp) _)

end

end Go.Proofs.YtikaoikladbdpaaGreat.M2
namespace Go.Proofs.YtikaoikladbdpaaGreat.M2
open Go.RowKit

section
variable {w : World} {B p : Nat} {size : Int} {zs : List Int} {st : Int}

end

end Go.Proofs.YtikaoikladbdpaaGreat.M2
namespace Go.Proofs.YtikaoikladbdpaaGreat.M2
open Go.RowKit

section
variable {w : World} {B p n : Nat} {size st : Int}
end

section
variable {w : World} {B p n : Nat} {size st : Int}
end

end Go.Proofs.YtikaoikladbdpaaGreat.M2
namespace Go.Proofs.YtikaoikladbdpaaGreat.M2
open Go.RowKit

section
variable {w : World} {B p n : Nat} {size st : Int}
end

end Go.Proofs.YtikaoikladbdpaaGreat.M2
namespace Go.Proofs.YtikaoikladbdpaaGreat.M2
open Go.RowKit

end Go.Proofs.YtikaoikladbdpaaGreat.M2
namespace Go.Proofs.YtikaoikladbdpaaGreat.M2
open Go.RowKit

def Kept (w w' : World) : Prop := ∀ (N : Nat) (cs : Array Value) (t : TypeId), w.heap[N]? = some (Obj.cells cs t (0, 0)) → t ≠ 2 → t ≠ 117 → w'.heap[N]? = some (Obj.cells cs t (0, 0))

theorem Did.kept {w w' : World} {B p : Nat} {v : Value} {size size' : Int} {zs zs' : List Int} {st st' : Int} (m : Mem w B p v size zs st) (d : Did B p v size' zs' st' w w') : Kept w w' := by
  obtain ⟨v', _, wr, _⟩ := d
  intro N cs t e h1 h2
  refine (wr.block N (lt_of_block e) ?_ ?_).trans e
  · rintro rfl
    have := m.block
    rw [e] at this
    simp only [Option.some.injEq, Obj.cells.injEq] at this
    exact h2 this.2.1
  · intro hv
    rcases m.own.2 with ⟨rfl, _⟩ | ⟨g, cap, cur, rfl, _, hg, _⟩
    · simp [Value.ownBlock] at hv
    · simp only [Value.ownBlock, Option.some.injEq] at hv
      subst hv
      rw [e] at hg
      simp only [Option.some.injEq, Obj.cells.injEq] at hg
      exact h1 hg.2.1

section
variable {w : World} {B p : Nat} {size : Int} {zs : List Int} {st : Int}
end

end Go.Proofs.YtikaoikladbdpaaGreat.M2
namespace Go.Proofs.YtikaoikladbdpaaGreat.M2
open Go.RowKit

theorem getD_set (zs : List Int) (i j : Nat) (x : Int) : (zs.set i x).getD j 0 = if i = j ∧ i < zs.length then x else zs.getD j 0 := by
  simp only [List.getD, List.getElem?_set]
  by_cases h : i = j
  · subst h
    by_cases h2 : i < zs.length
    · simp [h2]
    · simp [h2]
  · simp [h]

def setN (zs : List Int) (b : Nat) (vs : List Int) : Nat → List Int
  | 0 => zs
  | i + 1 => (setN zs b vs i).set (b + i) (vs.getD i 0)

theorem setN_length (zs : List Int) (b : Nat) (vs : List Int) (i : Nat) : (setN zs b vs i).length = zs.length := by
  induction i with
  | zero => rfl
  | succ i ih => simp [setN, ih]

theorem setN_at (zs : List Int) (b : Nat) (vs : List Int) (i t : Nat) (ht : t < i) (hb : b + i ≤ zs.length) : (setN zs b vs i).getD (b + t) 0 = vs.getD t 0 := by
  induction i with
  | zero => omega
  | succ i ih =>
    rw [setN, getD_set, setN_length]
    by_cases h : t = i
    · subst h
      rw [if_pos (by omega)]
    · rw [if_neg (by omega)]
      exact ih (by omega) (by omega)

def VR (w : World) (g : Nat) (vs : List Int) : Prop := w.heap[g]? = some (Obj.cells (vs.map (Value.int .i64)).toArray 2 (0, 0))
theorem VR.lt {w : World} {g : Nat} {vs : List Int} (h : VR w g vs) : g < w.heap.size := lt_of_block h
theorem VR.keep {w w' : World} {g : Nat} {vs : List Int} (h : VR w g vs) (hb : Below w.heap.size w w') : VR w' g vs := (hb.block g h.lt).trans h
theorem VR.cell {w : World} {g : Nat} {vs : List Int} (h : VR w g vs) {i : Nat} (hi : i < vs.length) : w.cell? ⟨g, i, none⟩ = some (.int .i64 (vs.getD i 0)) := by
  unfold VR at h
  simp [World.cell?, h, List.getD, hi]
theorem VR.f {w : World} {g : Nat} {vs : List Int} (h : VR w g vs) (o : Nat) : w.frozen? ⟨g, o, none⟩ = false := by unfold VR at h; simp [World.frozen?, h]

section
variable {w : World} {B p g : Nat} {size : Int} {zs : List Int} {st : Int}
end

end Go.Proofs.YtikaoikladbdpaaGreat.M2
namespace Go.Proofs.YtikaoikladbdpaaGreat.M2
open Go.RowKit

def ld (zs : List Int) (a : Int) : Int := if 0 ≤ a ∧ a < zs.length then zs.getD a.toNat 0 else 0
def ce (zs : List Int) (a : Int) : Int := if 0 ≤ a ∧ a < zs.length then 0 else 10
def cn (zs : List Int) (a : Int) : Int := if 0 ≤ a ∧ a < zs.length then 1 else 0
def sto (zs : List Int) (a x : Int) : List Int := if 0 ≤ a ∧ a < zs.length then zs.set a.toNat x else zs
def swb (zs : List Int) (a o : Int) : Bool := decide (0 ≤ a ∧ a < zs.length ∧ zs.getD a.toNat 0 = o)
def swp (zs : List Int) (a o x : Int) : List Int := if 0 ≤ a ∧ a < zs.length ∧ zs.getD a.toNat 0 = o then zs.set a.toNat x else zs
theorem cn_bd (zs : List Int) (a : Int) : 0 ≤ cn zs a ∧ cn zs a ≤ 1 := by unfold cn; split <;> omega
section
variable {w : World} {B p : Nat} {v : Value} {size : Int} {zs : List Int} {st : Int}

theorem loadD (m : Mem w B p v size zs st) (a : Int) (k0 : 0 ≤ st) (k1 : st < 1000000) :
    Calls Tryz.prog 36 #[.pointer (some ⟨p, 0, none⟩), .int .i64 a] w fun e w' => e = .returned (.tuple #[.int .i64 (ld zs a), .int .u16 (ce zs a)]) ∧ Did B p v size zs (st + cn zs a) w w' := by
  by_cases h : 0 ≤ a ∧ a < zs.length
  · rw [show ld zs a = zs.getD a.toNat 0 from if_pos h, show ce zs a = 0 from if_pos h, show cn zs a = 1 from if_pos h]
    exact loadIn m a h.1 h.2 k0 k1
  · rw [show ld zs a = 0 from if_neg h, show ce zs a = 10 from if_neg h, show cn zs a = 0 from if_neg h, Int.add_zero]
    exact loadOut m a (by omega)

theorem storeD (m : Mem w B p v size zs st) (a x : Int) (k0 : 0 ≤ st) (k1 : st < 1000000) :
    Calls Tryz.prog 37 #[.pointer (some ⟨p, 0, none⟩), .int .i64 a, .int .i64 x] w fun e w' => e = .returned (.int .u16 (ce zs a)) ∧ Did B p v size (sto zs a x) (st + cn zs a) w w' := by
  by_cases h : 0 ≤ a ∧ a < zs.length
  · rw [show sto zs a x = zs.set a.toNat x from if_pos h, show ce zs a = 0 from if_pos h, show cn zs a = 1 from if_pos h]
    exact storeIn m a x h.1 h.2 k0 k1
  · rw [show sto zs a x = zs from if_neg h, show ce zs a = 10 from if_neg h, show cn zs a = 0 from if_neg h, Int.add_zero]
    exact storeOut m a x (by omega)

theorem swapD (m : Mem w B p v size zs st) (a o x : Int) (k0 : 0 ≤ st) (k1 : st < 1000000) :
    Calls Tryz.prog 116 #[.pointer (some ⟨p, 0, none⟩), .int .i64 a, .int .i64 o, .int .i64 x] w fun e w' => e = .returned (.tuple #[.bool (swb zs a o), .int .u16 (ce zs a)]) ∧ Did B p v size (swp zs a o x) (st + cn zs a) w w' := by
  by_cases h : 0 ≤ a ∧ a < zs.length
  · rw [show ce zs a = 0 from if_pos h, show cn zs a = 1 from if_pos h]
    by_cases ho : zs.getD a.toNat 0 = o
    · rw [show swb zs a o = true from decide_eq_true ⟨h.1, h.2, ho⟩, show swp zs a o x = zs.set a.toNat x from if_pos ⟨h.1, h.2, ho⟩]
      exact swapIn m a o x h.1 h.2 ho k0 k1
    · rw [show swb zs a o = false from decide_eq_false (fun k => ho k.2.2), show swp zs a o x = zs from if_neg (fun k => ho k.2.2)]
      exact swapNo m a o x h.1 h.2 ho k0 k1
  · rw [show swb zs a o = false from decide_eq_false (fun k => h ⟨k.1, k.2.1⟩), show swp zs a o x = zs from if_neg (fun k => h ⟨k.1, k.2.1⟩), show ce zs a = 10 from if_neg h, show cn zs a = 0 from if_neg h, Int.add_zero]
    exact swapOut m a o x (by omega)

end

section
variable {w : World} {B : Nat} {u : Value} {size : Int} {zs : List Int} {st : Int}

end

structure Th where
  ti : Int
  pc : Int
  rc : Int
  sq : Int
  wo : Int
  lk : Int
  cu : Int
  pv : Int
  nt : Int
  mx : Int
  ps : Int
  rn : Int

def thV (t : Th) (b : Value) : Value := .agg #[.int .i64 t.ti, .int .i64 t.pc, .int .i64 t.rc, .int .i64 t.sq, .int .i64 t.wo, .int .i64 t.lk, .int .i64 t.cu, .int .i64 t.pv, .int .i64 t.nt, .int .i64 t.mx, .int .i64 t.ps, .int .i64 t.rn, b]

def fk (is : Bool) (a b : Int) : Int := if is then a else b
def ad (a b : Int) : Int := wrap64 (a + b)
def okW (n : Int) : Bool := decide (1 ≤ n ∧ n ≤ 1099511627776)
def rK (n : Int) : Int := if okW n then kd n else 0
def rV (n : Int) : Int := if okW n then vl n else 0

end Go.Proofs.YtikaoikladbdpaaGreat.M2
namespace Go.Proofs.YtikaoikladbdpaaGreat.M2
open Go.RowKit

abbrev It3 := Int × Int × Int

structure Cs where
  t : Th
  zs : List Int
  c : Int
  l : List It3

def onT (t : Th) : Th := { t with nt := ad t.nt 1, pc := fk (decide (ad t.nt 1 < t.mx)) 23 33 }
def hlT (is : Bool) (e : Int) (t : Th) : Th := if is then { t with pc := e } else onT t
def foT (e : Int) (t : Th) : Th := if t.lk = 0 then { t with pc := e } else { t with cu := t.lk, pc := 34 }
def itB (l : List It3) (n : Int) : Bool := decide (0 ≤ n ∧ n < l.length)
def itG (l : List It3) (n : Int) : It3 := if itB l n then l.getD n.toNat (0, 0, 0) else (0, 0, 0)
def itS (is : Bool) (zs : List Int) (a x : Int) : List Int := if is then sto zs a x else zs
def itC (is : Bool) (zs : List Int) (a : Int) : Int := if is then cn zs a else 0
def frT (pa : Int) (t : Th) (l : List It3) : Th := { t with nt := ad t.nt 1, pc := if itB l t.nt && itB l (ad t.nt 1) then 37 else fk (decide (t.rn < pa)) 20 40 }

def cst (pa : Int) (t : Th) (zs : List Int) (l : List It3) : Cs :=
  if t.pc = 20 then ⟨{ t with lk := ld zs 2, pc := 21 }, zs, cn zs 2, l⟩
  else if t.pc = 21 then ⟨{ t with ps := ad t.lk 1, rn := ad t.rn 1, pc := 22 }, sto zs 2 (ad t.lk 1), cn zs 2, l⟩
  else if t.pc = 22 then ⟨{ t with mx := (mn zs.length : Nat), nt := 0, pc := fk (decide (((mn zs.length : Nat) : Int) = 0)) 33 23 }, zs, 0, []⟩
  else if t.pc = 23 then ⟨hlT (ld zs (ad (bs t.nt) 1) == 0) 24 { t with cu := bs t.nt, lk := ld zs (ad (bs t.nt) 1) }, zs, cn zs (ad (bs t.nt) 1), l⟩
  else if t.pc = 24 then ⟨hlT (decide (0 < ld zs (ad t.cu 0))) 25 { t with lk := ld zs (ad t.cu 0) }, zs, cn zs (ad t.cu 0), l⟩
  else if t.pc = 25 then ⟨hlT (swb zs (ad t.cu 1) 0) 26 t, swp zs (ad t.cu 1) 0 2, cn zs (ad t.cu 1), l⟩
  else if t.pc = 26 then ⟨if ld zs 1 = 0 then { t with lk := ld zs 1, pc := 27 } else { t with lk := ld zs 1, pv := ld zs 1, pc := 29 }, zs, cn zs 1, l⟩
  else if t.pc = 27 then ⟨{ t with pc := 28 }, sto zs (ad t.cu 3) 0, cn zs (ad t.cu 3), l⟩
  else if t.pc = 28 then ⟨{ t with pc := fk (swb zs 1 0) 32 26 }, swp zs 1 0 t.cu, cn zs 1, l⟩
  else if t.pc = 29 then ⟨{ t with lk := ld zs (ad t.pv 3), pc := 30 }, zs, cn zs (ad t.pv 3), l⟩
  else if t.pc = 30 then ⟨{ t with pc := 31 }, sto zs (ad t.cu 3) t.lk, cn zs (ad t.cu 3), l⟩
  else if t.pc = 31 then ⟨{ t with pc := 32 }, sto zs (ad t.pv 3) t.cu, cn zs (ad t.pv 3), l⟩
  else if t.pc = 32 then ⟨onT t, sto zs (ad t.cu 1) 1, cn zs (ad t.cu 1), l⟩
  else if t.pc = 33 then ⟨foT 40 { t with lk := ld zs 1 }, zs, cn zs 1, l⟩
  else if t.pc = 34 then ⟨{ t with lk := ld zs (ad t.cu 0), pc := 35 }, zs, cn zs (ad t.cu 0), if 0 < ld zs (ad t.cu 0) then l ++ [(t.cu, ld zs (ad t.cu 0), 0)] else l⟩
  else if t.pc = 35 then ⟨foT (if l.length = 0 then 40 else 36) { t with lk := ld zs (ad t.cu 3) }, zs, cn zs (ad t.cu 3), l⟩
  else if t.pc = 37 then ⟨{ t with pc := 38 }, itS (itB l t.nt) zs (ad (itG l t.nt).1 4) (itG l t.nt).2.2, itC (itB l t.nt) zs (ad (itG l t.nt).1 4), l⟩
  else if t.pc = 38 then ⟨{ t with pc := 39 }, itS (itB l t.nt) zs (ad (itG l t.nt).1 2) t.ps, itC (itB l t.nt) zs (ad (itG l t.nt).1 2), l⟩
  else if t.pc = 39 then ⟨frT pa t l, itS (itB l t.nt) zs (ad (itG l t.nt).1 0) 0, itC (itB l t.nt) zs (ad (itG l t.nt).1 0), l⟩
  else ⟨t, zs, 0, l⟩

-- PLACES
theorem cst20 (pa : Int) (t : Th) (zs : List Int) (l : List It3) (h : t.pc = 20) : cst pa t zs l = ⟨{ t with lk := ld zs 2, pc := 21 }, zs, cn zs 2, l⟩ := by
  unfold cst
  simp only [h]
  simp
theorem cst21 (pa : Int) (t : Th) (zs : List Int) (l : List It3) (h : t.pc = 21) : cst pa t zs l = ⟨{ t with ps := ad t.lk 1, rn := ad t.rn 1, pc := 22 }, sto zs 2 (ad t.lk 1), cn zs 2, l⟩ := by
  unfold cst
  simp only [h]
  simp
theorem cst22 (pa : Int) (t : Th) (zs : List Int) (l : List It3) (h : t.pc = 22) : cst pa t zs l = ⟨{ t with mx := (mn zs.length : Nat), nt := 0, pc := fk (decide (((mn zs.length : Nat) : Int) = 0)) 33 23 }, zs, 0, []⟩ := by
  unfold cst
  simp only [h]
  simp
theorem cst23 (pa : Int) (t : Th) (zs : List Int) (l : List It3) (h : t.pc = 23) : cst pa t zs l = ⟨hlT (ld zs (ad (bs t.nt) 1) == 0) 24 { t with cu := bs t.nt, lk := ld zs (ad (bs t.nt) 1) }, zs, cn zs (ad (bs t.nt) 1), l⟩ := by
  unfold cst
  simp only [h]
  simp
theorem cst24 (pa : Int) (t : Th) (zs : List Int) (l : List It3) (h : t.pc = 24) : cst pa t zs l = ⟨hlT (decide (0 < ld zs (ad t.cu 0))) 25 { t with lk := ld zs (ad t.cu 0) }, zs, cn zs (ad t.cu 0), l⟩ := by
  unfold cst
  simp only [h]
  simp
theorem cst25 (pa : Int) (t : Th) (zs : List Int) (l : List It3) (h : t.pc = 25) : cst pa t zs l = ⟨hlT (swb zs (ad t.cu 1) 0) 26 t, swp zs (ad t.cu 1) 0 2, cn zs (ad t.cu 1), l⟩ := by
  unfold cst
  simp only [h]
  simp
theorem cst26 (pa : Int) (t : Th) (zs : List Int) (l : List It3) (h : t.pc = 26) : cst pa t zs l = ⟨if ld zs 1 = 0 then { t with lk := ld zs 1, pc := 27 } else { t with lk := ld zs 1, pv := ld zs 1, pc := 29 }, zs, cn zs 1, l⟩ := by
  unfold cst
  simp only [h]
  simp
theorem cst27 (pa : Int) (t : Th) (zs : List Int) (l : List It3) (h : t.pc = 27) : cst pa t zs l = ⟨{ t with pc := 28 }, sto zs (ad t.cu 3) 0, cn zs (ad t.cu 3), l⟩ := by
  unfold cst
  simp only [h]
  simp
theorem cst28 (pa : Int) (t : Th) (zs : List Int) (l : List It3) (h : t.pc = 28) : cst pa t zs l = ⟨{ t with pc := fk (swb zs 1 0) 32 26 }, swp zs 1 0 t.cu, cn zs 1, l⟩ := by
  unfold cst
  simp only [h]
  simp
theorem cst29 (pa : Int) (t : Th) (zs : List Int) (l : List It3) (h : t.pc = 29) : cst pa t zs l = ⟨{ t with lk := ld zs (ad t.pv 3), pc := 30 }, zs, cn zs (ad t.pv 3), l⟩ := by
  unfold cst
  simp only [h]
  simp
theorem cst30 (pa : Int) (t : Th) (zs : List Int) (l : List It3) (h : t.pc = 30) : cst pa t zs l = ⟨{ t with pc := 31 }, sto zs (ad t.cu 3) t.lk, cn zs (ad t.cu 3), l⟩ := by
  unfold cst
  simp only [h]
  simp
theorem cst31 (pa : Int) (t : Th) (zs : List Int) (l : List It3) (h : t.pc = 31) : cst pa t zs l = ⟨{ t with pc := 32 }, sto zs (ad t.pv 3) t.cu, cn zs (ad t.pv 3), l⟩ := by
  unfold cst
  simp only [h]
  simp
theorem cst32 (pa : Int) (t : Th) (zs : List Int) (l : List It3) (h : t.pc = 32) : cst pa t zs l = ⟨onT t, sto zs (ad t.cu 1) 1, cn zs (ad t.cu 1), l⟩ := by
  unfold cst
  simp only [h]
  simp
theorem cst33 (pa : Int) (t : Th) (zs : List Int) (l : List It3) (h : t.pc = 33) : cst pa t zs l = ⟨foT 40 { t with lk := ld zs 1 }, zs, cn zs 1, l⟩ := by
  unfold cst
  simp only [h]
  simp
theorem cst34 (pa : Int) (t : Th) (zs : List Int) (l : List It3) (h : t.pc = 34) : cst pa t zs l = ⟨{ t with lk := ld zs (ad t.cu 0), pc := 35 }, zs, cn zs (ad t.cu 0), if 0 < ld zs (ad t.cu 0) then l ++ [(t.cu, ld zs (ad t.cu 0), 0)] else l⟩ := by
  unfold cst
  simp only [h]
  simp
theorem cst35 (pa : Int) (t : Th) (zs : List Int) (l : List It3) (h : t.pc = 35) : cst pa t zs l = ⟨foT (if l.length = 0 then 40 else 36) { t with lk := ld zs (ad t.cu 3) }, zs, cn zs (ad t.cu 3), l⟩ := by
  unfold cst
  simp only [h]
  simp
theorem cst37 (pa : Int) (t : Th) (zs : List Int) (l : List It3) (h : t.pc = 37) : cst pa t zs l = ⟨{ t with pc := 38 }, itS (itB l t.nt) zs (ad (itG l t.nt).1 4) (itG l t.nt).2.2, itC (itB l t.nt) zs (ad (itG l t.nt).1 4), l⟩ := by
  unfold cst
  simp only [h]
  simp
theorem cst38 (pa : Int) (t : Th) (zs : List Int) (l : List It3) (h : t.pc = 38) : cst pa t zs l = ⟨{ t with pc := 39 }, itS (itB l t.nt) zs (ad (itG l t.nt).1 2) t.ps, itC (itB l t.nt) zs (ad (itG l t.nt).1 2), l⟩ := by
  unfold cst
  simp only [h]
  simp
theorem cst39 (pa : Int) (t : Th) (zs : List Int) (l : List It3) (h : t.pc = 39) : cst pa t zs l = ⟨frT pa t l, itS (itB l t.nt) zs (ad (itG l t.nt).1 0) 0, itC (itB l t.nt) zs (ad (itG l t.nt).1 0), l⟩ := by
  unfold cst
  simp only [h]
  simp
theorem cst0 (pa : Int) (t : Th) (zs : List Int) (l : List It3) (h : t.pc < 20 ∨ 39 < t.pc ∨ t.pc = 36) : cst pa t zs l = ⟨t, zs, 0, l⟩ := by
  unfold cst
  simp only [show ¬ t.pc = 20 by omega, show ¬ t.pc = 21 by omega, show ¬ t.pc = 22 by omega, show ¬ t.pc = 23 by omega, show ¬ t.pc = 24 by omega, show ¬ t.pc = 25 by omega, show ¬ t.pc = 26 by omega, show ¬ t.pc = 27 by omega, show ¬ t.pc = 28 by omega, show ¬ t.pc = 29 by omega, show ¬ t.pc = 30 by omega, show ¬ t.pc = 31 by omega, show ¬ t.pc = 32 by omega, show ¬ t.pc = 33 by omega, show ¬ t.pc = 34 by omega, show ¬ t.pc = 35 by omega, show ¬ t.pc = 37 by omega, show ¬ t.pc = 38 by omega, show ¬ t.pc = 39 by omega, if_false]

end Go.Proofs.YtikaoikladbdpaaGreat.M2
namespace Go.Proofs.YtikaoikladbdpaaGreat.M2
open Go.RowKit

def TX (w : World) (g : Nat) (t : Th) (b : Value) : Prop := w.heap[g]? = some (.cells #[.int .i64 t.ti, .int .i64 t.pc, .int .i64 t.rc, .int .i64 t.sq, .int .i64 t.wo, .int .i64 t.lk, .int .i64 t.cu, .int .i64 t.pv, .int .i64 t.nt, .int .i64 t.mx, .int .i64 t.ps, .int .i64 t.rn, b] 25 (0, 0))
def t0 : Th := ⟨0, 0, 0, 0, 0, 0, 0, 0, 0, 0, 0, 0⟩

section
variable {w w' : World} {g : Nat} {t t' : Th} {b b' : Value}
theorem TX.lt (h : TX w g t b) : g < w.heap.size := lt_of_block h
theorem TX.f (h : TX w g t b) (o : Nat) : w.frozen? ⟨g, o, none⟩ = false := by unfold TX at h; simp [World.frozen?, h]
theorem TX.keep (h : TX w g t b) (hb : Below w.heap.size w w') : TX w' g t b := (hb.block g h.lt).trans h
theorem TX.alloc (h : TX w g t b) (o : Obj) : TX (w.alloc o) g t b := (Below.heap_alloc _ _ _ h.lt).trans h
theorem TX.new (w : World) (t : Th) (b : Value) : TX (w.alloc (.cells #[.int .i64 t.ti, .int .i64 t.pc, .int .i64 t.rc, .int .i64 t.sq, .int .i64 t.wo, .int .i64 t.lk, .int .i64 t.cu, .int .i64 t.pv, .int .i64 t.nt, .int .i64 t.mx, .int .i64 t.ps, .int .i64 t.rn, b] 25)) w.heap.size t b := heap_alloc_new w _
theorem TX.drew (h : TX w g t b) : TX w.drew g t b := h
theorem TX.c0 (h : TX w g t b) : w.cell? ⟨g, 0, none⟩ = some (.int .i64 t.ti) := by unfold TX at h; simp [World.cell?, h]
theorem TX.c1 (h : TX w g t b) : w.cell? ⟨g, 1, none⟩ = some (.int .i64 t.pc) := by unfold TX at h; simp [World.cell?, h]
theorem TX.c2 (h : TX w g t b) : w.cell? ⟨g, 2, none⟩ = some (.int .i64 t.rc) := by unfold TX at h; simp [World.cell?, h]
theorem TX.c3 (h : TX w g t b) : w.cell? ⟨g, 3, none⟩ = some (.int .i64 t.sq) := by unfold TX at h; simp [World.cell?, h]
theorem TX.c4 (h : TX w g t b) : w.cell? ⟨g, 4, none⟩ = some (.int .i64 t.wo) := by unfold TX at h; simp [World.cell?, h]
theorem TX.c5 (h : TX w g t b) : w.cell? ⟨g, 5, none⟩ = some (.int .i64 t.lk) := by unfold TX at h; simp [World.cell?, h]
theorem TX.c6 (h : TX w g t b) : w.cell? ⟨g, 6, none⟩ = some (.int .i64 t.cu) := by unfold TX at h; simp [World.cell?, h]
theorem TX.c7 (h : TX w g t b) : w.cell? ⟨g, 7, none⟩ = some (.int .i64 t.pv) := by unfold TX at h; simp [World.cell?, h]
theorem TX.c8 (h : TX w g t b) : w.cell? ⟨g, 8, none⟩ = some (.int .i64 t.nt) := by unfold TX at h; simp [World.cell?, h]
theorem TX.c9 (h : TX w g t b) : w.cell? ⟨g, 9, none⟩ = some (.int .i64 t.mx) := by unfold TX at h; simp [World.cell?, h]
theorem TX.c10 (h : TX w g t b) : w.cell? ⟨g, 10, none⟩ = some (.int .i64 t.ps) := by unfold TX at h; simp [World.cell?, h]
theorem TX.c11 (h : TX w g t b) : w.cell? ⟨g, 11, none⟩ = some (.int .i64 t.rn) := by unfold TX at h; simp [World.cell?, h]
theorem TX.c12 (h : TX w g t b) : w.cell? ⟨g, 12, none⟩ = some (b) := by unfold TX at h; simp [World.cell?, h]
theorem TX.s0 (h : TX w g t b) (x : Int) : TX (w.setCell ⟨g, 0, none⟩ (.int .i64 x)) g { t with ti := x } b := by unfold TX; rw [heap_setCell_same w g 0 _ _ _ h]; rfl
theorem TX.s1 (h : TX w g t b) (x : Int) : TX (w.setCell ⟨g, 1, none⟩ (.int .i64 x)) g { t with pc := x } b := by unfold TX; rw [heap_setCell_same w g 1 _ _ _ h]; rfl
theorem TX.s2 (h : TX w g t b) (x : Int) : TX (w.setCell ⟨g, 2, none⟩ (.int .i64 x)) g { t with rc := x } b := by unfold TX; rw [heap_setCell_same w g 2 _ _ _ h]; rfl
theorem TX.s3 (h : TX w g t b) (x : Int) : TX (w.setCell ⟨g, 3, none⟩ (.int .i64 x)) g { t with sq := x } b := by unfold TX; rw [heap_setCell_same w g 3 _ _ _ h]; rfl
theorem TX.s4 (h : TX w g t b) (x : Int) : TX (w.setCell ⟨g, 4, none⟩ (.int .i64 x)) g { t with wo := x } b := by unfold TX; rw [heap_setCell_same w g 4 _ _ _ h]; rfl
theorem TX.s5 (h : TX w g t b) (x : Int) : TX (w.setCell ⟨g, 5, none⟩ (.int .i64 x)) g { t with lk := x } b := by unfold TX; rw [heap_setCell_same w g 5 _ _ _ h]; rfl
theorem TX.s6 (h : TX w g t b) (x : Int) : TX (w.setCell ⟨g, 6, none⟩ (.int .i64 x)) g { t with cu := x } b := by unfold TX; rw [heap_setCell_same w g 6 _ _ _ h]; rfl
theorem TX.s7 (h : TX w g t b) (x : Int) : TX (w.setCell ⟨g, 7, none⟩ (.int .i64 x)) g { t with pv := x } b := by unfold TX; rw [heap_setCell_same w g 7 _ _ _ h]; rfl
theorem TX.s8 (h : TX w g t b) (x : Int) : TX (w.setCell ⟨g, 8, none⟩ (.int .i64 x)) g { t with nt := x } b := by unfold TX; rw [heap_setCell_same w g 8 _ _ _ h]; rfl
theorem TX.s9 (h : TX w g t b) (x : Int) : TX (w.setCell ⟨g, 9, none⟩ (.int .i64 x)) g { t with mx := x } b := by unfold TX; rw [heap_setCell_same w g 9 _ _ _ h]; rfl
theorem TX.s10 (h : TX w g t b) (x : Int) : TX (w.setCell ⟨g, 10, none⟩ (.int .i64 x)) g { t with ps := x } b := by unfold TX; rw [heap_setCell_same w g 10 _ _ _ h]; rfl
theorem TX.s11 (h : TX w g t b) (x : Int) : TX (w.setCell ⟨g, 11, none⟩ (.int .i64 x)) g { t with rn := x } b := by unfold TX; rw [heap_setCell_same w g 11 _ _ _ h]; rfl
theorem TX.s12 (h : TX w g t b) (x : Value) : TX (w.setCell ⟨g, 12, none⟩ x) g t x := by unfold TX; rw [heap_setCell_same w g 12 _ _ _ h]; rfl
def setT (w : World) (g : Nat) (t : Th) (b : Value) : World := (((((((((((((w.setCell ⟨g, 0, none⟩ (.int .i64 t.ti)).setCell ⟨g, 1, none⟩ (.int .i64 t.pc)).setCell ⟨g, 2, none⟩ (.int .i64 t.rc)).setCell ⟨g, 3, none⟩ (.int .i64 t.sq)).setCell ⟨g, 4, none⟩ (.int .i64 t.wo)).setCell ⟨g, 5, none⟩ (.int .i64 t.lk)).setCell ⟨g, 6, none⟩ (.int .i64 t.cu)).setCell ⟨g, 7, none⟩ (.int .i64 t.pv)).setCell ⟨g, 8, none⟩ (.int .i64 t.nt)).setCell ⟨g, 9, none⟩ (.int .i64 t.mx)).setCell ⟨g, 10, none⟩ (.int .i64 t.ps)).setCell ⟨g, 11, none⟩ (.int .i64 t.rn)).setCell ⟨g, 12, none⟩ b)
theorem TX.all (h : TX w g t b) (t' : Th) (b' : Value) : TX (setT w g t' b') g t' b' :=
  ((((((((((((h.s0 t'.ti).s1 t'.pc).s2 t'.rc).s3 t'.sq).s4 t'.wo).s5 t'.lk).s6 t'.cu).s7 t'.pv).s8 t'.nt).s9 t'.mx).s10 t'.ps).s11 t'.rn).s12 b'
theorem setT_other (w : World) {g k : Nat} (hk : k ≠ g) (t : Th) (b : Value) : (setT w g t b).heap[k]? = w.heap[k]? := by
  unfold setT
  repeat rw [Below.heap_setCell _ _ _ _ (by simpa using hk)]
theorem setT_size (w : World) (g : Nat) (t : Th) (b : Value) : (setT w g t b).heap.size = w.heap.size := by simp [setT, World.setCell]
end

def fi (l : List (Int × Int × Int)) : List Value := l.flatMap fun i => [.int .i64 i.1, .int .i64 i.2.1, .int .i64 i.2.2]
theorem fi_cons (i : Int × Int × Int) (l : List (Int × Int × Int)) : fi (i :: l) = .int .i64 i.1 :: .int .i64 i.2.1 :: .int .i64 i.2.2 :: fi l := rfl
theorem fi_length : ∀ l : List (Int × Int × Int), (fi l).length = l.length * 3
  | [] => rfl
  | i :: l => by rw [fi_cons, List.length_cons, List.length_cons, List.length_cons, fi_length l, List.length_cons]; omega
theorem fi_at : ∀ (l : List (Int × Int × Int)) (k : Nat), k < l.length → (fi l)[k * 3]? = some (.int .i64 (l.getD k (0, 0, 0)).1) ∧ (fi l)[k * 3 + 1]? = some (.int .i64 (l.getD k (0, 0, 0)).2.1) ∧ (fi l)[k * 3 + 2]? = some (.int .i64 (l.getD k (0, 0, 0)).2.2)
  | i :: l, 0, _ => ⟨rfl, rfl, rfl⟩
  | i :: l, k + 1, h => by
    have := fi_at l k (by simpa using h)
    rw [fi_cons, show (k + 1) * 3 = k * 3 + 1 + 1 + 1 by omega]
    simpa using this
theorem fi_one (l : List (Int × Int × Int)) : ∀ u ∈ fi l, u.oneCell' = true := by
  intro u hu
  simp only [fi, List.mem_flatMap, List.mem_cons, List.not_mem_nil, or_false] at hu
  obtain ⟨i, _, rfl | rfl | rfl⟩ := hu <;> rfl

def Its (w : World) (ao : Option Addr) (n : Nat) (l : List (Int × Int × Int)) : Prop :=
  l.length = n ∧ (0 < n → ∃ b off, ao = some ⟨b, off, none⟩ ∧ b < w.heap.size ∧ ∀ j u, (fi l)[j]? = some u → w.cell? ⟨b, off + j, none⟩ = some u)

section
variable {w w' : World} {ao : Option Addr} {n k cap : Nat} {l : List (Int × Int × Int)}
theorem Its.zero (w : World) (ao : Option Addr) : Its w ao 0 [] := ⟨rfl, fun h => by omega⟩
theorem Its.keep (h : Its w ao n l) (hb : Below w.heap.size w w') : Its w' ao n l := by
  refine ⟨h.1, fun hp => ?_⟩
  obtain ⟨b, off, e, hl, hc⟩ := h.2 hp
  exact ⟨b, off, e, Nat.lt_of_lt_of_le hl hb.size, fun j u hu => (hb.cell (p := ⟨b, off + j, none⟩) hl).trans (hc j u hu)⟩
theorem Its.src (h : Its w ao n l) : 0 < n → ∃ ad, ao = some ad ∧ ∀ j u, (fi l)[j]? = some u → w.cell? (ad.add j) = some u := fun hp => by
  obtain ⟨b, off, rfl, _, hc⟩ := h.2 hp
  refine ⟨⟨b, off, Option.none⟩, rfl, fun j u hu => ?_⟩
  rw [Addr.add_lit]
  exact hc j u hu
theorem Its.own {base : Nat} {v : Value} (h : w.ownsRow base 68 3 v n (fi l)) : ∃ ao cap, v = .slice ao n cap ∧ Its w ao n l ∧ (∀ a, ao = some a → base ≤ a.block) := by
  have hl : l.length = n := by have := h.1; rw [fi_length] at this; omega
  have hcs := fun g hg => h.cells (g := g) hg
  rcases h.2 with ⟨rfl, rfl⟩ | ⟨g, cap, cur, rfl, hb, hg, hle, _⟩
  · exact ⟨_, _, rfl, ⟨hl, fun hp => by omega⟩, fun _ h => by simp at h⟩
  · refine ⟨_, _, rfl, ⟨hl, fun hp => ⟨g, 0, rfl, lt_of_block hg, fun j u hu => ?_⟩⟩, fun a ha => by injection ha with ha; subst ha; exact hb⟩
    have := hcs g rfl j u hu
    simpa [Addr.add_lit] using this
end

end Go.Proofs.YtikaoikladbdpaaGreat.M2
namespace Go.Proofs.YtikaoikladbdpaaGreat.M2
open Go.RowKit

def TC (w : World) (N p : Nat) (t : Th) (b o : Value) (pa : Int) (dn : Value) : Prop :=
  w.heap[N]? = some (.cells #[.int .i64 t.ti, .int .i64 t.pc, .int .i64 t.rc, .int .i64 t.sq, .int .i64 t.wo, .int .i64 t.lk, .int .i64 t.cu, .int .i64 t.pv, .int .i64 t.nt, .int .i64 t.mx, .int .i64 t.ps, .int .i64 t.rn, b, .pointer (some ⟨p, 0, none⟩), o, .int .i64 pa, dn] 109 (0, 0))

section
variable {w w' : World} {N p : Nat} {t : Th} {b o : Value} {pa : Int} {dn : Value}
theorem TC.lt (h : TC w N p t b o pa dn) : N < w.heap.size := lt_of_block h
theorem TC.f (h : TC w N p t b o pa dn) (j : Nat) : w.frozen? ⟨N, j, none⟩ = false := by unfold TC at h; simp [World.frozen?, h]
theorem TC.drewN (h : TC w N p t b o pa dn) (n : Nat) : TC (w.drewN n) N p t b o pa dn := h
theorem TC.c0 (h : TC w N p t b o pa dn) : w.cell? ⟨N, 0, none⟩ = some (.int .i64 t.ti) := by unfold TC at h; simp [World.cell?, h]
theorem TC.c1 (h : TC w N p t b o pa dn) : w.cell? ⟨N, 1, none⟩ = some (.int .i64 t.pc) := by unfold TC at h; simp [World.cell?, h]
theorem TC.c2 (h : TC w N p t b o pa dn) : w.cell? ⟨N, 2, none⟩ = some (.int .i64 t.rc) := by unfold TC at h; simp [World.cell?, h]
theorem TC.c3 (h : TC w N p t b o pa dn) : w.cell? ⟨N, 3, none⟩ = some (.int .i64 t.sq) := by unfold TC at h; simp [World.cell?, h]
theorem TC.c4 (h : TC w N p t b o pa dn) : w.cell? ⟨N, 4, none⟩ = some (.int .i64 t.wo) := by unfold TC at h; simp [World.cell?, h]
theorem TC.c5 (h : TC w N p t b o pa dn) : w.cell? ⟨N, 5, none⟩ = some (.int .i64 t.lk) := by unfold TC at h; simp [World.cell?, h]
theorem TC.c6 (h : TC w N p t b o pa dn) : w.cell? ⟨N, 6, none⟩ = some (.int .i64 t.cu) := by unfold TC at h; simp [World.cell?, h]
theorem TC.c7 (h : TC w N p t b o pa dn) : w.cell? ⟨N, 7, none⟩ = some (.int .i64 t.pv) := by unfold TC at h; simp [World.cell?, h]
theorem TC.c8 (h : TC w N p t b o pa dn) : w.cell? ⟨N, 8, none⟩ = some (.int .i64 t.nt) := by unfold TC at h; simp [World.cell?, h]
theorem TC.c9 (h : TC w N p t b o pa dn) : w.cell? ⟨N, 9, none⟩ = some (.int .i64 t.mx) := by unfold TC at h; simp [World.cell?, h]
theorem TC.c10 (h : TC w N p t b o pa dn) : w.cell? ⟨N, 10, none⟩ = some (.int .i64 t.ps) := by unfold TC at h; simp [World.cell?, h]
theorem TC.c11 (h : TC w N p t b o pa dn) : w.cell? ⟨N, 11, none⟩ = some (.int .i64 t.rn) := by unfold TC at h; simp [World.cell?, h]
theorem TC.c12 (h : TC w N p t b o pa dn) : w.cell? ⟨N, 12, none⟩ = some (b) := by unfold TC at h; simp [World.cell?, h]
theorem TC.c13 (h : TC w N p t b o pa dn) : w.cell? ⟨N, 13, none⟩ = some (.pointer (some ⟨p, 0, none⟩)) := by unfold TC at h; simp [World.cell?, h]
theorem TC.c14 (h : TC w N p t b o pa dn) : w.cell? ⟨N, 14, none⟩ = some (o) := by unfold TC at h; simp [World.cell?, h]
theorem TC.c15 (h : TC w N p t b o pa dn) : w.cell? ⟨N, 15, none⟩ = some (.int .i64 pa) := by unfold TC at h; simp [World.cell?, h]
theorem TC.c16 (h : TC w N p t b o pa dn) : w.cell? ⟨N, 16, none⟩ = some (dn) := by unfold TC at h; simp [World.cell?, h]
theorem TC.s1 (h : TC w N p t b o pa dn) (x : Int) : TC (w.setCell ⟨N, 1, none⟩ (.int .i64 x)) N p { t with pc := x } b o pa dn := by unfold TC; rw [heap_setCell_same w N 1 _ _ _ h]; rfl
theorem TC.s5 (h : TC w N p t b o pa dn) (x : Int) : TC (w.setCell ⟨N, 5, none⟩ (.int .i64 x)) N p { t with lk := x } b o pa dn := by unfold TC; rw [heap_setCell_same w N 5 _ _ _ h]; rfl
theorem TC.s6 (h : TC w N p t b o pa dn) (x : Int) : TC (w.setCell ⟨N, 6, none⟩ (.int .i64 x)) N p { t with cu := x } b o pa dn := by unfold TC; rw [heap_setCell_same w N 6 _ _ _ h]; rfl
theorem TC.s7 (h : TC w N p t b o pa dn) (x : Int) : TC (w.setCell ⟨N, 7, none⟩ (.int .i64 x)) N p { t with pv := x } b o pa dn := by unfold TC; rw [heap_setCell_same w N 7 _ _ _ h]; rfl
theorem TC.s8 (h : TC w N p t b o pa dn) (x : Int) : TC (w.setCell ⟨N, 8, none⟩ (.int .i64 x)) N p { t with nt := x } b o pa dn := by unfold TC; rw [heap_setCell_same w N 8 _ _ _ h]; rfl
theorem TC.s9 (h : TC w N p t b o pa dn) (x : Int) : TC (w.setCell ⟨N, 9, none⟩ (.int .i64 x)) N p { t with mx := x } b o pa dn := by unfold TC; rw [heap_setCell_same w N 9 _ _ _ h]; rfl
theorem TC.s10 (h : TC w N p t b o pa dn) (x : Int) : TC (w.setCell ⟨N, 10, none⟩ (.int .i64 x)) N p { t with ps := x } b o pa dn := by unfold TC; rw [heap_setCell_same w N 10 _ _ _ h]; rfl
theorem TC.s11 (h : TC w N p t b o pa dn) (x : Int) : TC (w.setCell ⟨N, 11, none⟩ (.int .i64 x)) N p { t with rn := x } b o pa dn := by unfold TC; rw [heap_setCell_same w N 11 _ _ _ h]; rfl
theorem TC.s12 (h : TC w N p t b o pa dn) (x : Value) : TC (w.setCell ⟨N, 12, none⟩ x) N p t x o pa dn := by unfold TC; rw [heap_setCell_same w N 12 _ _ _ h]; rfl
theorem TC.s16 (h : TC w N p t b o pa dn) (x : Value) : TC (w.setCell ⟨N, 16, none⟩ x) N p t b o pa x := by unfold TC; rw [heap_setCell_same w N 16 _ _ _ h]; rfl
theorem TC.new (w : World) (p : Nat) (t : Th) (b o : Value) (pa : Int) (dn : Value) : TC (w.alloc (.cells #[.int .i64 t.ti, .int .i64 t.pc, .int .i64 t.rc, .int .i64 t.sq, .int .i64 t.wo, .int .i64 t.lk, .int .i64 t.cu, .int .i64 t.pv, .int .i64 t.nt, .int .i64 t.mx, .int .i64 t.ps, .int .i64 t.rn, b, .pointer (some ⟨p, 0, none⟩), o, .int .i64 pa, dn] 109)) w.heap.size p t b o pa dn := heap_alloc_new w _
end

theorem Did.comp {w0 w w' : World} {B p : Nat} {v0 v : Value} {size : Int} {zs : List Int} {st : Int} (h : Wrote p v0 w0 w) (l : Later v0 v w0) (d : Did B p v size zs st w w') : Did B p v0 size zs st w0 w' := by
  obtain ⟨v', m, wr, lt⟩ := d
  refine ⟨v', m, ⟨wr.os.trans h.os, wr.tape.trans h.tape, wr.output.trans h.output, Nat.le_trans h.size wr.size, fun k hk h1 h2 => ?_⟩, fun g hg => ?_⟩
  · refine (wr.block k (Nat.lt_of_lt_of_le hk h.size) h1 (fun e => ?_)).trans (h.block k hk h1 h2)
    rcases l k e with e2 | e2
    · exact h2 e2
    · omega
  · rcases lt g hg with e | e
    · exact l g e
    · exact .inr (Nat.le_trans h.size e)

def BR (M : Nat) (w : World) (b : Value) (l : List It3) : Prop := w.ownsRow M 68 3 b l.length (fi l)

structure CM (w0 : World) (M B p N : Nat) (v0 : Value) (size : Int) (t : Th) (b o : Value) (pa : Int) (dn : Value) (l : List It3) (zs : List Int) (st : Int) (w : World) : Prop where
  box : TC w N p t b o pa dn
  did : Did B p v0 size zs st w0 w
  far : w0.heap.size ≤ N
  row : BR M w b l
  rowM : M ≤ w.heap.size

section
variable {w0 w w' : World} {M B p N : Nat} {v0 : Value} {size : Int} {t : Th} {b o : Value} {pa : Int} {dn : Value} {l : List It3} {zs zs' : List Int} {st st' : Int}
theorem BR.keep (h : BR M w b l) (hb : ∀ g, b.ownBlock = some g → w'.heap[g]? = w.heap[g]?) : BR M w' b l := _root_.Go.Proofs.YtikaoikladbdpaaGreat.own_keep h hb
theorem BR.block (h : BR M w b l) {g : Nat} (hg : b.ownBlock = some g) : ∃ cs, w.heap[g]? = some (.cells cs 68 (0, 0)) := by
  rcases h.2 with ⟨rfl, _⟩ | ⟨g', cap, cur, rfl, _, hc, _⟩
  · simp [Value.ownBlock] at hg
  · simp only [Value.ownBlock, Option.some.injEq] at hg
    subst hg
    exact ⟨_, hc⟩
theorem BR.kept (h : BR M w b l) (k : Kept w w') : BR M w' b l := h.keep fun g hg => by
  obtain ⟨cs, hc⟩ := h.block hg
  exact (k _ _ _ hc (by decide) (by decide)).trans hc.symm
theorem BR.below (h : BR M w b l) (hb : Below w.heap.size w w') : BR M w' b l := h.keep fun g hg => by
  obtain ⟨cs, hc⟩ := h.block hg
  exact hb.block g (lt_of_block hc)
theorem BR.nil (M : Nat) (w : World) : BR M w (.slice none 0 0) [] := World.ownsRow_nil w M _ 3
theorem CM.next (h : CM w0 M B p N v0 size t b o pa dn l zs st w) {u : Value} (m : Mem w B p u size zs st) (wr : Wrote p v0 w0 w) (lt : Later v0 u w0) (x : Did B p u size zs' st' w w') : CM w0 M B p N v0 size t b o pa dn l zs' st' w' :=
  ⟨x.kept m _ _ _ h.box (by decide) (by decide), x.comp wr lt, h.far, h.row.kept (x.kept m), by obtain ⟨_, _, y, _⟩ := x; exact Nat.le_trans h.rowM y.size⟩
theorem CM.call {f : FuncId} {args : Array Value} {R : Ending → Prop} (h : CM w0 M B p N v0 size t b o pa dn l zs st w) (C : ∀ u, Mem w B p u size zs st → Calls Tryz.prog f args w fun e w' => R e ∧ Did B p u size zs' st' w w') :
    Calls Tryz.prog f args w fun e w' => R e ∧ CM w0 M B p N v0 size t b o pa dn l zs' st' w' := by
  obtain ⟨u, m, wr, lt⟩ := h.did
  exact (C u m).mono fun e w' ⟨he, x⟩ => ⟨he, h.next m wr lt x⟩
theorem CM.callK {f : FuncId} {args : Array Value} {R : Ending → Prop} (h : CM w0 M B p N v0 size t b o pa dn l zs st w) (C : ∀ u, Mem w B p u size zs st → Calls Tryz.prog f args w fun e w' => R e ∧ Did B p u size zs' st' w w') :
    Calls Tryz.prog f args w fun e w' => R e ∧ CM w0 M B p N v0 size t b o pa dn l zs' st' w' ∧ Kept w w' := by
  obtain ⟨u, m, wr, lt⟩ := h.did
  exact (C u m).mono fun e w' ⟨he, x⟩ => ⟨he, h.next m wr lt x, x.kept m⟩
theorem CM.mem (h : CM w0 M B p N v0 size t b o pa dn l zs st w) : Mem1 w B p size zs st := by
  obtain ⟨u, m, _⟩ := h.did
  exact ⟨u, m⟩

theorem CM.put (h : CM w0 M B p N v0 size t b o pa dn l zs st w) {j : Nat} {x : Value} {t' : Th} {b' dn' : Value} {l' : List It3} (hb : TC (w.setCell ⟨N, j, none⟩ x) N p t' b' o pa dn') (hr : BR M w b' l') : CM w0 M B p N v0 size t' b' o pa dn' l' zs st (w.setCell ⟨N, j, none⟩ x) := by
  obtain ⟨u, m, wr, lt⟩ := h.did
  refine ⟨hb, ⟨u, m.setOther (q := ⟨N, j, none⟩) ?_ ?_ _, wr.setCell (q := ⟨N, j, none⟩) (.inl h.far) _, lt⟩, h.far, hr.keep fun g hg => Below.heap_setCell _ _ _ _ ?_, by simpa [World.setCell] using h.rowM⟩
  · rintro e
    have e : N = p := e
    subst e
    have e1 := m.block
    have e2 := h.box
    unfold TC at e2
    rw [e2] at e1
    simp at e1
  · intro e
    have e : u.ownBlock = some N := e
    rcases m.own.2 with ⟨rfl, _⟩ | ⟨g, cap, cur, rfl, _, hg, _⟩
    · simp [Value.ownBlock] at e
    · simp only [Value.ownBlock, Option.some.injEq] at e
      subst e
      have e2 := h.box
      unfold TC at e2
      rw [e2] at hg
      simp at hg
  · rintro e
    have e : g = N := e
    subst e
    obtain ⟨cs, hc⟩ := hr.block hg
    have e2 := h.box
    unfold TC at e2
    rw [e2] at hc
    simp at hc
theorem CM.drew (h : CM w0 M B p N v0 size t b o pa dn l zs st w) : CM w0 M B p N v0 size t b o pa dn l zs st w.drew := by
  obtain ⟨u, m, wr, lt⟩ := h.did
  exact ⟨h.box, ⟨u, m.drew, wr.drew, lt⟩, h.far, h.row, h.rowM⟩
theorem CM.fresh (h : CM w0 M B p N v0 size t b o pa dn l zs st w) (hb : Below w.heap.size w w') : CM w0 M B p N v0 size t b o pa dn l zs st w' := by
  obtain ⟨u, m, wr, lt⟩ := h.did
  exact ⟨(hb.block N h.box.lt).trans h.box, Did.comp wr lt ⟨u, m.fresh hb, ⟨hb.os, hb.tape, hb.output, hb.size, fun k hk _ _ => hb.block k hk⟩, Later.refl _ _⟩, h.far, h.row.below hb, Nat.le_trans h.rowM hb.size⟩
theorem CM.s1 (h : CM w0 M B p N v0 size t b o pa dn l zs st w) (x : Int) : CM w0 M B p N v0 size { t with pc := x } b o pa dn l zs st (w.setCell ⟨N, 1, none⟩ (.int .i64 x)) := h.put (h.box.s1 x) h.row
theorem CM.s5 (h : CM w0 M B p N v0 size t b o pa dn l zs st w) (x : Int) : CM w0 M B p N v0 size { t with lk := x } b o pa dn l zs st (w.setCell ⟨N, 5, none⟩ (.int .i64 x)) := h.put (h.box.s5 x) h.row
theorem CM.s6 (h : CM w0 M B p N v0 size t b o pa dn l zs st w) (x : Int) : CM w0 M B p N v0 size { t with cu := x } b o pa dn l zs st (w.setCell ⟨N, 6, none⟩ (.int .i64 x)) := h.put (h.box.s6 x) h.row
theorem CM.s7 (h : CM w0 M B p N v0 size t b o pa dn l zs st w) (x : Int) : CM w0 M B p N v0 size { t with pv := x } b o pa dn l zs st (w.setCell ⟨N, 7, none⟩ (.int .i64 x)) := h.put (h.box.s7 x) h.row
theorem CM.s8 (h : CM w0 M B p N v0 size t b o pa dn l zs st w) (x : Int) : CM w0 M B p N v0 size { t with nt := x } b o pa dn l zs st (w.setCell ⟨N, 8, none⟩ (.int .i64 x)) := h.put (h.box.s8 x) h.row
theorem CM.s9 (h : CM w0 M B p N v0 size t b o pa dn l zs st w) (x : Int) : CM w0 M B p N v0 size { t with mx := x } b o pa dn l zs st (w.setCell ⟨N, 9, none⟩ (.int .i64 x)) := h.put (h.box.s9 x) h.row
theorem CM.s10 (h : CM w0 M B p N v0 size t b o pa dn l zs st w) (x : Int) : CM w0 M B p N v0 size { t with ps := x } b o pa dn l zs st (w.setCell ⟨N, 10, none⟩ (.int .i64 x)) := h.put (h.box.s10 x) h.row
theorem CM.s11 (h : CM w0 M B p N v0 size t b o pa dn l zs st w) (x : Int) : CM w0 M B p N v0 size { t with rn := x } b o pa dn l zs st (w.setCell ⟨N, 11, none⟩ (.int .i64 x)) := h.put (h.box.s11 x) h.row
theorem CM.load (h : CM w0 M B p N v0 size t b o pa dn l zs st w) (a : Int) (k0 : 0 ≤ st) (k1 : st < 1000000) :
    Calls Tryz.prog 36 #[.pointer (some ⟨p, 0, none⟩), .int .i64 a] w fun e w' => e = .returned (.tuple #[.int .i64 (ld zs a), .int .u16 (ce zs a)]) ∧ CM w0 M B p N v0 size t b o pa dn l zs (st + cn zs a) w' :=
  h.call fun _ m => loadD m a k0 k1
theorem CM.swap (h : CM w0 M B p N v0 size t b o pa dn l zs st w) (a q x : Int) (k0 : 0 ≤ st) (k1 : st < 1000000) :
    Calls Tryz.prog 116 #[.pointer (some ⟨p, 0, none⟩), .int .i64 a, .int .i64 q, .int .i64 x] w fun e w' => e = .returned (.tuple #[.bool (swb zs a q), .int .u16 (ce zs a)]) ∧ CM w0 M B p N v0 size t b o pa dn l (swp zs a q x) (st + cn zs a) w' :=
  h.call fun _ m => swapD m a q x k0 k1
theorem CM.storeK (h : CM w0 M B p N v0 size t b o pa dn l zs st w) (a x : Int) (k0 : 0 ≤ st) (k1 : st < 1000000) :
    Calls Tryz.prog 37 #[.pointer (some ⟨p, 0, none⟩), .int .i64 a, .int .i64 x] w fun e w' => e = .returned (.int .u16 (ce zs a)) ∧ CM w0 M B p N v0 size t b o pa dn l (sto zs a x) (st + cn zs a) w' ∧ Kept w w' :=
  h.callK fun _ m => storeD m a x k0 k1
end

end Go.Proofs.YtikaoikladbdpaaGreat.M2
namespace Go.Proofs.YtikaoikladbdpaaGreat.M2
open Go.RowKit

end Go.Proofs.YtikaoikladbdpaaGreat.M2
