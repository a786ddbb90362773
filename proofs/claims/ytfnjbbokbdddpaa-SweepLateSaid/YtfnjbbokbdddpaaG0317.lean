/-
  The calls of package cells where only the number of cells and the steps are looked at. Conditions: a memory as MemL says; steps below a million. The chapter's example (reaperlaw13.known) is told; and a call on a memory of records where only their number is looked at. Conditions: none. A record, a result, equals itself; the word of what is told tells it. Conditions: none. What a call on a memory leaves of all blocks that are neither a memory nor a list of int64: it is as it was. Conditions: a memory as Mem1 says; steps below a million. A memory beside a list of int64 of one's own that is not the memory's own row; numbers set one behind the other. Conditions: a memory as Mem says. What a call on a memory tells whatever the address is: Load, Store, Swap and Alloc of five cells, the program's and the document's; threads in plain numbers, and what a step makes of one. Conditions: a memory as Mem says; steps below a million. What a step of who sweeps makes of a thread and of the cells, in plain numbers (package sweep). Conditions: none; no Go function is looked at here. A thread in a block of its own, its batch (a list of items), a document's memory beside it. Conditions: none; no Go function is looked at here. A turn (package sweep) in a block of its own beside the memory it steps at. Conditions: none; no Go function is looked at here. The small calls of a turn (package sweep): load, store, ends, follow, takes, live, old, closes. Conditions: a turn beside its memory, as CM says; steps below a million.
-/
import Derived.Test.YtfnjbbokbdddpaaG0217
import Derived.BigRegion
import Derived.BigQuiet
import Derived.Deep.RegionHeld3
namespace Go.Proofs.Ytfnjbbokbdddpaa.M2
open Go.RowKit

section
variable {w : World} {B p n : Nat} {size st : Int}
end

section
variable {w : World} {B p n : Nat} {size st : Int}
end

end Go.Proofs.Ytfnjbbokbdddpaa.M2
namespace Go.Proofs.Ytfnjbbokbdddpaa.M2
open Go.RowKit

section
variable {w : World} {B p n : Nat} {size st : Int}
end

end Go.Proofs.Ytfnjbbokbdddpaa.M2
namespace Go.Proofs.Ytfnjbbokbdddpaa.M2
open Go.RowKit

end Go.Proofs.Ytfnjbbokbdddpaa.M2
namespace Go.Proofs.Ytfnjbbokbdddpaa.M2
open Go.RowKit

def Kept (w w' : World) : Prop := ∀ (N : Nat) (cs : Array Value) (t : TypeId), w.heap[N]? = some (Obj.cells cs t (0, 0)) → t ≠ 2 → t ≠ 84 → w'.heap[N]? = some (Obj.cells cs t (0, 0))

theorem keptOf {a b : World} (h : Below a.heap.size a b) : Kept a b := fun N _ _ e _ _ => (h.block N (lt_of_block e)).trans e

theorem Did.kept {w w' : World} {B p : Nat} {v : Value} {size size' : Int} {zs zs' : List Int} {st st' : Int} (m : Mem w B p v size zs st) (d : Did B p v size' zs' st' w w') : Kept w w' := by
  obtain ⟨v', _, wr, _⟩ := d
  intro N cs t e h1 h2
  refine (wr.block N (lt_of_block e) ?_ ?_).trans e
  · rintro rfl
    have := m.block
    rw [e] at this
    simp only [Option.some.injEq, Obj.cells.injEq] at this
    exact h2 this.2.1
  · intro hv
    rcases m.own.2 with ⟨rfl, _⟩ | ⟨g, cap, cur, rfl, _, hg, _⟩
    · simp [Value.ownBlock] at hv
    · simp only [Value.ownBlock, Option.some.injEq] at hv
      subst hv
      rw [e] at hg
      simp only [Option.some.injEq, Obj.cells.injEq] at hg
      exact h1 hg.2.1

section
variable {w : World} {B p : Nat} {size : Int} {zs : List Int} {st : Int}
end

end Go.Proofs.Ytfnjbbokbdddpaa.M2
namespace Go.Proofs.Ytfnjbbokbdddpaa.M2
open Go.RowKit

theorem getD_set (zs : List Int) (i j : Nat) (x : Int) : (zs.set i x).getD j 0 = if i = j ∧ i < zs.length then x else zs.getD j 0 := by
  simp only [List.getD, List.getElem?_set]
  by_cases h : i = j
  · subst h
    by_cases h2 : i < zs.length
    · simp [h2]
    · simp [h2]
  · simp [h]

def setN (zs : List Int) (b : Nat) (vs : List Int) : Nat → List Int
  | 0 => zs
  | i + 1 => (setN zs b vs i).set (b + i) (vs.getD i 0)

theorem setN_length (zs : List Int) (b : Nat) (vs : List Int) (i : Nat) : (setN zs b vs i).length = zs.length := by
  induction i with
  | zero => rfl
  | succ i ih => simp [setN, ih]

theorem setN_at (zs : List Int) (b : Nat) (vs : List Int) (i t : Nat) (ht : t < i) (hb : b + i ≤ zs.length) : (setN zs b vs i).getD (b + t) 0 = vs.getD t 0 := by
  induction i with
  | zero => omega
  | succ i ih =>
    rw [setN, getD_set, setN_length]
    by_cases h : t = i
    · subst h
      rw [if_pos (by omega)]
    · rw [if_neg (by omega)]
      exact ih (by omega) (by omega)

def VR (w : World) (g : Nat) (vs : List Int) : Prop := w.heap[g]? = some (Obj.cells (vs.map (Value.int .i64)).toArray 2 (0, 0))
theorem VR.lt {w : World} {g : Nat} {vs : List Int} (h : VR w g vs) : g < w.heap.size := lt_of_block h
theorem VR.cell {w : World} {g : Nat} {vs : List Int} (h : VR w g vs) {i : Nat} (hi : i < vs.length) : w.cell? ⟨g, i, none⟩ = some (.int .i64 (vs.getD i 0)) := by
  unfold VR at h
  simp [World.cell?, h, List.getD, hi]
theorem VR.f {w : World} {g : Nat} {vs : List Int} (h : VR w g vs) (o : Nat) : w.frozen? ⟨g, o, none⟩ = false := by unfold VR at h; simp [World.frozen?, h]

section
variable {w : World} {B p g : Nat} {size : Int} {zs : List Int} {st : Int}
end

end Go.Proofs.Ytfnjbbokbdddpaa.M2
namespace Go.Proofs.Ytfnjbbokbdddpaa.M2
open Go.RowKit

def ld (zs : List Int) (a : Int) : Int := if 0 ≤ a ∧ a < zs.length then zs.getD a.toNat 0 else 0
def ce (zs : List Int) (a : Int) : Int := if 0 ≤ a ∧ a < zs.length then 0 else 10
def cn (zs : List Int) (a : Int) : Int := if 0 ≤ a ∧ a < zs.length then 1 else 0
def sto (zs : List Int) (a x : Int) : List Int := if 0 ≤ a ∧ a < zs.length then zs.set a.toNat x else zs
def swb (zs : List Int) (a o : Int) : Bool := decide (0 ≤ a ∧ a < zs.length ∧ zs.getD a.toNat 0 = o)
def swp (zs : List Int) (a o x : Int) : List Int := if 0 ≤ a ∧ a < zs.length ∧ zs.getD a.toNat 0 = o then zs.set a.toNat x else zs
theorem cn_bd (zs : List Int) (a : Int) : 0 ≤ cn zs a ∧ cn zs a ≤ 1 := by unfold cn; split <;> omega
section
variable {w : World} {B p : Nat} {v : Value} {size : Int} {zs : List Int} {st : Int}

theorem loadD (m : Mem w B p v size zs st) (a : Int) (k0 : 0 ≤ st) (k1 : st < 1000000) :
    Calls Try.prog 27 #[.pointer (some ⟨p, 0, none⟩), .int .i64 a] w fun e w' => e = .returned (.tuple #[.int .i64 (ld zs a), .int .u16 (ce zs a)]) ∧ Did B p v size zs (st + cn zs a) w w' := by
  by_cases h : 0 ≤ a ∧ a < zs.length
  · rw [show ld zs a = zs.getD a.toNat 0 from if_pos h, show ce zs a = 0 from if_pos h, show cn zs a = 1 from if_pos h]
    exact loadIn m a h.1 h.2 k0 k1
  · rw [show ld zs a = 0 from if_neg h, show ce zs a = 10 from if_neg h, show cn zs a = 0 from if_neg h, Int.add_zero]
    exact loadOut m a (by omega)

theorem storeD (m : Mem w B p v size zs st) (a x : Int) (k0 : 0 ≤ st) (k1 : st < 1000000) :
    Calls Try.prog 36 #[.pointer (some ⟨p, 0, none⟩), .int .i64 a, .int .i64 x] w fun e w' => e = .returned (.int .u16 (ce zs a)) ∧ Did B p v size (sto zs a x) (st + cn zs a) w w' := by
  by_cases h : 0 ≤ a ∧ a < zs.length
  · rw [show sto zs a x = zs.set a.toNat x from if_pos h, show ce zs a = 0 from if_pos h, show cn zs a = 1 from if_pos h]
    exact storeIn m a x h.1 h.2 k0 k1
  · rw [show sto zs a x = zs from if_neg h, show ce zs a = 10 from if_neg h, show cn zs a = 0 from if_neg h, Int.add_zero]
    exact storeOut m a x (by omega)

theorem swapD (m : Mem w B p v size zs st) (a o x : Int) (k0 : 0 ≤ st) (k1 : st < 1000000) :
    Calls Try.prog 25 #[.pointer (some ⟨p, 0, none⟩), .int .i64 a, .int .i64 o, .int .i64 x] w fun e w' => e = .returned (.tuple #[.bool (swb zs a o), .int .u16 (ce zs a)]) ∧ Did B p v size (swp zs a o x) (st + cn zs a) w w' := by
  by_cases h : 0 ≤ a ∧ a < zs.length
  · rw [show ce zs a = 0 from if_pos h, show cn zs a = 1 from if_pos h]
    by_cases ho : zs.getD a.toNat 0 = o
    · rw [show swb zs a o = true from decide_eq_true ⟨h.1, h.2, ho⟩, show swp zs a o x = zs.set a.toNat x from if_pos ⟨h.1, h.2, ho⟩]
      exact swapIn m a o x h.1 h.2 ho k0 k1
    · rw [show swb zs a o = false from decide_eq_false (fun k => ho k.2.2), show swp zs a o x = zs from if_neg (fun k => ho k.2.2)]
      exact swapNo m a o x h.1 h.2 ho k0 k1
  · rw [show swb zs a o = false from decide_eq_false (fun k => h ⟨k.1, k.2.1⟩), show swp zs a o x = zs from if_neg (fun k => h ⟨k.1, k.2.1⟩), show ce zs a = 10 from if_neg h, show cn zs a = 0 from if_neg h, Int.add_zero]
    exact swapOut m a o x (by omega)

end

section
variable {w : World} {B : Nat} {u : Value} {size : Int} {zs : List Int} {st : Int}

end

structure Th where
  ti : Int
  pc : Int
  rc : Int
  sq : Int
  wo : Int
  lk : Int
  cu : Int
  pv : Int
  nt : Int
  mx : Int
  ps : Int
  rn : Int

def thV (t : Th) (b : Value) : Value := .agg #[.int .i64 t.ti, .int .i64 t.pc, .int .i64 t.rc, .int .i64 t.sq, .int .i64 t.wo, .int .i64 t.lk, .int .i64 t.cu, .int .i64 t.pv, .int .i64 t.nt, .int .i64 t.mx, .int .i64 t.ps, .int .i64 t.rn, b]

def ad (a b : Int) : Int := wrap64 (a + b)
end Go.Proofs.Ytfnjbbokbdddpaa.M2
namespace Go.Proofs.Ytfnjbbokbdddpaa.M2
open Go.RowKit

abbrev It3 := Int × Int × Int

structure Sw where
  t : Th
  zs : List Int
  c : Int

def byT (t : Th) : Th := { t with pv := t.cu, pc := 41 }
def tkT (is : Bool) (e : Int) (t : Th) : Th := if is then { t with pc := e } else byT t

def swt (ag : Int) (t : Th) (zs : List Int) : Sw :=
  if t.pc = 40 then ⟨if ld zs 1 = 0 then { t with lk := 0, pc := 48 } else { t with lk := ld zs 1, pv := ld zs 1, pc := 41 }, zs, cn zs 1⟩
  else if t.pc = 41 then ⟨if ld zs (ad t.pv 3) = 0 then { t with lk := 0, pc := 48 } else { t with lk := ld zs (ad t.pv 3), cu := ld zs (ad t.pv 3), pc := 42 }, zs, cn zs (ad t.pv 3)⟩
  else if t.pc = 42 then ⟨tkT (ld zs (ad t.cu 1) == 1) 43 { t with lk := ld zs (ad t.cu 1) }, zs, cn zs (ad t.cu 1)⟩
  else if t.pc = 43 then ⟨tkT (decide (ag < wrap64 (t.ps - ld zs (ad t.cu 2)))) 44 { t with lk := ld zs (ad t.cu 2) }, zs, cn zs (ad t.cu 2)⟩
  else if t.pc = 44 then ⟨tkT (swb zs (ad t.cu 0) 0) 45 t, swp zs (ad t.cu 0) 0 (-1), cn zs (ad t.cu 0)⟩
  else if t.pc = 45 then ⟨{ t with lk := ld zs (ad t.cu 3), pc := 46 }, zs, cn zs (ad t.cu 3)⟩
  else if t.pc = 46 then ⟨{ t with pc := 47 }, sto zs (ad t.pv 3) t.lk, cn zs (ad t.pv 3)⟩
  else if t.pc = 47 then ⟨{ t with pc := 41 }, sto zs (ad t.cu 1) 0, cn zs (ad t.cu 1)⟩
  else if t.pc = 48 then ⟨{ t with pc := 11 }, sto zs 0 0, cn zs 0⟩
  else ⟨t, zs, 0⟩

theorem swt40 (ag : Int) (t : Th) (zs : List Int) (h : t.pc = 40) : swt ag t zs = ⟨if ld zs 1 = 0 then { t with lk := 0, pc := 48 } else { t with lk := ld zs 1, pv := ld zs 1, pc := 41 }, zs, cn zs 1⟩ := by
  unfold swt
  simp only [h]
  simp
theorem swt41 (ag : Int) (t : Th) (zs : List Int) (h : t.pc = 41) : swt ag t zs = ⟨if ld zs (ad t.pv 3) = 0 then { t with lk := 0, pc := 48 } else { t with lk := ld zs (ad t.pv 3), cu := ld zs (ad t.pv 3), pc := 42 }, zs, cn zs (ad t.pv 3)⟩ := by
  unfold swt
  simp only [h]
  simp
theorem swt42 (ag : Int) (t : Th) (zs : List Int) (h : t.pc = 42) : swt ag t zs = ⟨tkT (ld zs (ad t.cu 1) == 1) 43 { t with lk := ld zs (ad t.cu 1) }, zs, cn zs (ad t.cu 1)⟩ := by
  unfold swt
  simp only [h]
  simp
theorem swt43 (ag : Int) (t : Th) (zs : List Int) (h : t.pc = 43) : swt ag t zs = ⟨tkT (decide (ag < wrap64 (t.ps - ld zs (ad t.cu 2)))) 44 { t with lk := ld zs (ad t.cu 2) }, zs, cn zs (ad t.cu 2)⟩ := by
  unfold swt
  simp only [h]
  simp
theorem swt44 (ag : Int) (t : Th) (zs : List Int) (h : t.pc = 44) : swt ag t zs = ⟨tkT (swb zs (ad t.cu 0) 0) 45 t, swp zs (ad t.cu 0) 0 (-1), cn zs (ad t.cu 0)⟩ := by
  unfold swt
  simp only [h]
  simp
theorem swt45 (ag : Int) (t : Th) (zs : List Int) (h : t.pc = 45) : swt ag t zs = ⟨{ t with lk := ld zs (ad t.cu 3), pc := 46 }, zs, cn zs (ad t.cu 3)⟩ := by
  unfold swt
  simp only [h]
  simp
theorem swt46 (ag : Int) (t : Th) (zs : List Int) (h : t.pc = 46) : swt ag t zs = ⟨{ t with pc := 47 }, sto zs (ad t.pv 3) t.lk, cn zs (ad t.pv 3)⟩ := by
  unfold swt
  simp only [h]
  simp
theorem swt47 (ag : Int) (t : Th) (zs : List Int) (h : t.pc = 47) : swt ag t zs = ⟨{ t with pc := 41 }, sto zs (ad t.cu 1) 0, cn zs (ad t.cu 1)⟩ := by
  unfold swt
  simp only [h]
  simp
theorem swt48 (ag : Int) (t : Th) (zs : List Int) (h : t.pc = 48) : swt ag t zs = ⟨{ t with pc := 11 }, sto zs 0 0, cn zs 0⟩ := by
  unfold swt
  simp only [h]
  simp
theorem swt0 (ag : Int) (t : Th) (zs : List Int) (h : ¬ (40 ≤ t.pc ∧ t.pc ≤ 48)) : swt ag t zs = ⟨t, zs, 0⟩ := by
  unfold swt
  rw [if_neg (by omega)]; rw [if_neg (by omega)]; rw [if_neg (by omega)]; rw [if_neg (by omega)]; rw [if_neg (by omega)]; rw [if_neg (by omega)]; rw [if_neg (by omega)]; rw [if_neg (by omega)]; rw [if_neg (by omega)]
def stN (ag : Int) : Nat → Th → List Int → Th × List Int
  | 0, t, zs => (t, zs)
  | k + 1, t, zs => ((swt ag (stN ag k t zs).1 (stN ag k t zs).2).t, (swt ag (stN ag k t zs).1 (stN ag k t zs).2).zs)
def swB (t : Th) : Bool := decide (40 ≤ t.pc ∧ t.pc ≤ 48)
theorem swt_c (ag : Int) (t : Th) (zs : List Int) : 0 ≤ (swt ag t zs).c ∧ (swt ag t zs).c ≤ 1 := by
  have h := cn_bd zs
  unfold swt
  repeat' split
  all_goals first | exact h _ | simp
end Go.Proofs.Ytfnjbbokbdddpaa.M2
namespace Go.Proofs.Ytfnjbbokbdddpaa.M2
open Go.RowKit

def TX (w : World) (g : Nat) (t : Th) (b : Value) : Prop := w.heap[g]? = some (.cells #[.int .i64 t.ti, .int .i64 t.pc, .int .i64 t.rc, .int .i64 t.sq, .int .i64 t.wo, .int .i64 t.lk, .int .i64 t.cu, .int .i64 t.pv, .int .i64 t.nt, .int .i64 t.mx, .int .i64 t.ps, .int .i64 t.rn, b] 25 (0, 0))
def t0 : Th := ⟨0, 0, 0, 0, 0, 0, 0, 0, 0, 0, 0, 0⟩

section
variable {w w' : World} {g : Nat} {t t' : Th} {b b' : Value}
theorem TX.lt (h : TX w g t b) : g < w.heap.size := lt_of_block h
theorem TX.f (h : TX w g t b) (o : Nat) : w.frozen? ⟨g, o, none⟩ = false := by unfold TX at h; simp [World.frozen?, h]
theorem TX.keep (h : TX w g t b) (hb : Below w.heap.size w w') : TX w' g t b := (hb.block g h.lt).trans h
theorem TX.alloc (h : TX w g t b) (o : Obj) : TX (w.alloc o) g t b := (Below.heap_alloc _ _ _ h.lt).trans h
theorem TX.new (w : World) (t : Th) (b : Value) : TX (w.alloc (.cells #[.int .i64 t.ti, .int .i64 t.pc, .int .i64 t.rc, .int .i64 t.sq, .int .i64 t.wo, .int .i64 t.lk, .int .i64 t.cu, .int .i64 t.pv, .int .i64 t.nt, .int .i64 t.mx, .int .i64 t.ps, .int .i64 t.rn, b] 25)) w.heap.size t b := heap_alloc_new w _
theorem TX.c0 (h : TX w g t b) : w.cell? ⟨g, 0, none⟩ = some (.int .i64 t.ti) := by unfold TX at h; simp [World.cell?, h]
theorem TX.c1 (h : TX w g t b) : w.cell? ⟨g, 1, none⟩ = some (.int .i64 t.pc) := by unfold TX at h; simp [World.cell?, h]
theorem TX.c2 (h : TX w g t b) : w.cell? ⟨g, 2, none⟩ = some (.int .i64 t.rc) := by unfold TX at h; simp [World.cell?, h]
theorem TX.c3 (h : TX w g t b) : w.cell? ⟨g, 3, none⟩ = some (.int .i64 t.sq) := by unfold TX at h; simp [World.cell?, h]
theorem TX.c4 (h : TX w g t b) : w.cell? ⟨g, 4, none⟩ = some (.int .i64 t.wo) := by unfold TX at h; simp [World.cell?, h]
theorem TX.c5 (h : TX w g t b) : w.cell? ⟨g, 5, none⟩ = some (.int .i64 t.lk) := by unfold TX at h; simp [World.cell?, h]
theorem TX.c6 (h : TX w g t b) : w.cell? ⟨g, 6, none⟩ = some (.int .i64 t.cu) := by unfold TX at h; simp [World.cell?, h]
theorem TX.c7 (h : TX w g t b) : w.cell? ⟨g, 7, none⟩ = some (.int .i64 t.pv) := by unfold TX at h; simp [World.cell?, h]
theorem TX.c8 (h : TX w g t b) : w.cell? ⟨g, 8, none⟩ = some (.int .i64 t.nt) := by unfold TX at h; simp [World.cell?, h]
theorem TX.c9 (h : TX w g t b) : w.cell? ⟨g, 9, none⟩ = some (.int .i64 t.mx) := by unfold TX at h; simp [World.cell?, h]
theorem TX.c10 (h : TX w g t b) : w.cell? ⟨g, 10, none⟩ = some (.int .i64 t.ps) := by unfold TX at h; simp [World.cell?, h]
theorem TX.c11 (h : TX w g t b) : w.cell? ⟨g, 11, none⟩ = some (.int .i64 t.rn) := by unfold TX at h; simp [World.cell?, h]
theorem TX.c12 (h : TX w g t b) : w.cell? ⟨g, 12, none⟩ = some (b) := by unfold TX at h; simp [World.cell?, h]
theorem TX.s0 (h : TX w g t b) (x : Int) : TX (w.setCell ⟨g, 0, none⟩ (.int .i64 x)) g { t with ti := x } b := by unfold TX; rw [heap_setCell_same w g 0 _ _ _ h]; rfl
theorem TX.s1 (h : TX w g t b) (x : Int) : TX (w.setCell ⟨g, 1, none⟩ (.int .i64 x)) g { t with pc := x } b := by unfold TX; rw [heap_setCell_same w g 1 _ _ _ h]; rfl
theorem TX.s2 (h : TX w g t b) (x : Int) : TX (w.setCell ⟨g, 2, none⟩ (.int .i64 x)) g { t with rc := x } b := by unfold TX; rw [heap_setCell_same w g 2 _ _ _ h]; rfl
theorem TX.s3 (h : TX w g t b) (x : Int) : TX (w.setCell ⟨g, 3, none⟩ (.int .i64 x)) g { t with sq := x } b := by unfold TX; rw [heap_setCell_same w g 3 _ _ _ h]; rfl
theorem TX.s4 (h : TX w g t b) (x : Int) : TX (w.setCell ⟨g, 4, none⟩ (.int .i64 x)) g { t with wo := x } b := by unfold TX; rw [heap_setCell_same w g 4 _ _ _ h]; rfl
theorem TX.s5 (h : TX w g t b) (x : Int) : TX (w.setCell ⟨g, 5, none⟩ (.int .i64 x)) g { t with lk := x } b := by unfold TX; rw [heap_setCell_same w g 5 _ _ _ h]; rfl
theorem TX.s6 (h : TX w g t b) (x : Int) : TX (w.setCell ⟨g, 6, none⟩ (.int .i64 x)) g { t with cu := x } b := by unfold TX; rw [heap_setCell_same w g 6 _ _ _ h]; rfl
theorem TX.s7 (h : TX w g t b) (x : Int) : TX (w.setCell ⟨g, 7, none⟩ (.int .i64 x)) g { t with pv := x } b := by unfold TX; rw [heap_setCell_same w g 7 _ _ _ h]; rfl
theorem TX.s8 (h : TX w g t b) (x : Int) : TX (w.setCell ⟨g, 8, none⟩ (.int .i64 x)) g { t with nt := x } b := by unfold TX; rw [heap_setCell_same w g 8 _ _ _ h]; rfl
theorem TX.s9 (h : TX w g t b) (x : Int) : TX (w.setCell ⟨g, 9, none⟩ (.int .i64 x)) g { t with mx := x } b := by unfold TX; rw [heap_setCell_same w g 9 _ _ _ h]; rfl
theorem TX.s10 (h : TX w g t b) (x : Int) : TX (w.setCell ⟨g, 10, none⟩ (.int .i64 x)) g { t with ps := x } b := by unfold TX; rw [heap_setCell_same w g 10 _ _ _ h]; rfl
theorem TX.s11 (h : TX w g t b) (x : Int) : TX (w.setCell ⟨g, 11, none⟩ (.int .i64 x)) g { t with rn := x } b := by unfold TX; rw [heap_setCell_same w g 11 _ _ _ h]; rfl
theorem TX.s12 (h : TX w g t b) (x : Value) : TX (w.setCell ⟨g, 12, none⟩ x) g t x := by unfold TX; rw [heap_setCell_same w g 12 _ _ _ h]; rfl
def setT (w : World) (g : Nat) (t : Th) (b : Value) : World := (((((((((((((w.setCell ⟨g, 0, none⟩ (.int .i64 t.ti)).setCell ⟨g, 1, none⟩ (.int .i64 t.pc)).setCell ⟨g, 2, none⟩ (.int .i64 t.rc)).setCell ⟨g, 3, none⟩ (.int .i64 t.sq)).setCell ⟨g, 4, none⟩ (.int .i64 t.wo)).setCell ⟨g, 5, none⟩ (.int .i64 t.lk)).setCell ⟨g, 6, none⟩ (.int .i64 t.cu)).setCell ⟨g, 7, none⟩ (.int .i64 t.pv)).setCell ⟨g, 8, none⟩ (.int .i64 t.nt)).setCell ⟨g, 9, none⟩ (.int .i64 t.mx)).setCell ⟨g, 10, none⟩ (.int .i64 t.ps)).setCell ⟨g, 11, none⟩ (.int .i64 t.rn)).setCell ⟨g, 12, none⟩ b)
theorem TX.all (h : TX w g t b) (t' : Th) (b' : Value) : TX (setT w g t' b') g t' b' :=
  ((((((((((((h.s0 t'.ti).s1 t'.pc).s2 t'.rc).s3 t'.sq).s4 t'.wo).s5 t'.lk).s6 t'.cu).s7 t'.pv).s8 t'.nt).s9 t'.mx).s10 t'.ps).s11 t'.rn).s12 b'
theorem setT_other (w : World) {g k : Nat} (hk : k ≠ g) (t : Th) (b : Value) : (setT w g t b).heap[k]? = w.heap[k]? := by
  unfold setT
  repeat rw [Below.heap_setCell _ _ _ _ (by simpa using hk)]
theorem setT_size (w : World) (g : Nat) (t : Th) (b : Value) : (setT w g t b).heap.size = w.heap.size := by simp [setT, World.setCell]
theorem setT_below {a w : World} {B g : Nat} (h : Below B a w) (hg : B ≤ g) (t : Th) (b : Value) : Below B a (setT w g t b) := by
  unfold setT
  exact (((((((((((((h.setCell (by simpa using hg) _).setCell (by simpa using hg) _).setCell (by simpa using hg) _).setCell (by simpa using hg) _).setCell (by simpa using hg) _).setCell (by simpa using hg) _).setCell (by simpa using hg) _).setCell (by simpa using hg) _).setCell (by simpa using hg) _).setCell (by simpa using hg) _).setCell (by simpa using hg) _).setCell (by simpa using hg) _).setCell (by simpa using hg) _)
end

def fi (l : List (Int × Int × Int)) : List Value := l.flatMap fun i => [.int .i64 i.1, .int .i64 i.2.1, .int .i64 i.2.2]
theorem fi_cons (i : Int × Int × Int) (l : List (Int × Int × Int)) : fi (i :: l) = .int .i64 i.1 :: .int .i64 i.2.1 :: .int .i64 i.2.2 :: fi l := rfl
theorem fi_length : ∀ l : List (Int × Int × Int), (fi l).length = l.length * 3
  | [] => rfl
  | i :: l => by rw [fi_cons, List.length_cons, List.length_cons, List.length_cons, fi_length l, List.length_cons]; omega
theorem fi_one (l : List (Int × Int × Int)) : ∀ u ∈ fi l, u.oneCell' = true := by
  intro u hu
  simp only [fi, List.mem_flatMap, List.mem_cons, List.not_mem_nil, or_false] at hu
  obtain ⟨i, _, rfl | rfl | rfl⟩ := hu <;> rfl

def Its (w : World) (ao : Option Addr) (n : Nat) (l : List (Int × Int × Int)) : Prop :=
  l.length = n ∧ (0 < n → ∃ b off, ao = some ⟨b, off, none⟩ ∧ b < w.heap.size ∧ ∀ j u, (fi l)[j]? = some u → w.cell? ⟨b, off + j, none⟩ = some u)

section
variable {w w' : World} {ao : Option Addr} {n k cap : Nat} {l : List (Int × Int × Int)}
theorem Its.zero (w : World) (ao : Option Addr) : Its w ao 0 [] := ⟨rfl, fun h => by omega⟩
theorem Its.keep (h : Its w ao n l) (hb : Below w.heap.size w w') : Its w' ao n l := by
  refine ⟨h.1, fun hp => ?_⟩
  obtain ⟨b, off, e, hl, hc⟩ := h.2 hp
  exact ⟨b, off, e, Nat.lt_of_lt_of_le hl hb.size, fun j u hu => (hb.cell (p := ⟨b, off + j, none⟩) hl).trans (hc j u hu)⟩
theorem Its.src (h : Its w ao n l) : 0 < n → ∃ ad, ao = some ad ∧ ∀ j u, (fi l)[j]? = some u → w.cell? (ad.add j) = some u := fun hp => by
  obtain ⟨b, off, rfl, _, hc⟩ := h.2 hp
  refine ⟨⟨b, off, Option.none⟩, rfl, fun j u hu => ?_⟩
  rw [Addr.add_lit]
  exact hc j u hu
theorem Its.own {base : Nat} {v : Value} (h : w.ownsRow base 93 3 v n (fi l)) : ∃ ao cap, v = .slice ao n cap ∧ Its w ao n l ∧ (∀ a, ao = some a → base ≤ a.block) := by
  have hl : l.length = n := by have := h.1; rw [fi_length] at this; omega
  have hcs := fun g hg => h.cells (g := g) hg
  rcases h.2 with ⟨rfl, rfl⟩ | ⟨g, cap, cur, rfl, hb, hg, hle, _⟩
  · exact ⟨_, _, rfl, ⟨hl, fun hp => by omega⟩, fun _ h => by simp at h⟩
  · refine ⟨_, _, rfl, ⟨hl, fun hp => ⟨g, 0, rfl, lt_of_block hg, fun j u hu => ?_⟩⟩, fun a ha => by injection ha with ha; subst ha; exact hb⟩
    have := hcs g rfl j u hu
    simpa [Addr.add_lit] using this
end

end Go.Proofs.Ytfnjbbokbdddpaa.M2
namespace Go.Proofs.Ytfnjbbokbdddpaa.M2
open Go.RowKit

def TC (w : World) (N p : Nat) (t : Th) (b : Value) (ag : Int) : Prop :=
  w.heap[N]? = some (.cells #[.int .i64 t.ti, .int .i64 t.pc, .int .i64 t.rc, .int .i64 t.sq, .int .i64 t.wo, .int .i64 t.lk, .int .i64 t.cu, .int .i64 t.pv, .int .i64 t.nt, .int .i64 t.mx, .int .i64 t.ps, .int .i64 t.rn, b, .pointer (some ⟨p, 0, none⟩), .int .i64 ag] 90 (0, 0))

section
variable {w w' : World} {N p : Nat} {t : Th} {b : Value} {ag : Int}
theorem TC.lt (h : TC w N p t b ag) : N < w.heap.size := lt_of_block h
theorem TC.f (h : TC w N p t b ag) (j : Nat) : w.frozen? ⟨N, j, none⟩ = false := by unfold TC at h; simp [World.frozen?, h]
theorem TC.c0 (h : TC w N p t b ag) : w.cell? ⟨N, 0, none⟩ = some (.int .i64 t.ti) := by unfold TC at h; simp [World.cell?, h]
theorem TC.c1 (h : TC w N p t b ag) : w.cell? ⟨N, 1, none⟩ = some (.int .i64 t.pc) := by unfold TC at h; simp [World.cell?, h]
theorem TC.c2 (h : TC w N p t b ag) : w.cell? ⟨N, 2, none⟩ = some (.int .i64 t.rc) := by unfold TC at h; simp [World.cell?, h]
theorem TC.c3 (h : TC w N p t b ag) : w.cell? ⟨N, 3, none⟩ = some (.int .i64 t.sq) := by unfold TC at h; simp [World.cell?, h]
theorem TC.c4 (h : TC w N p t b ag) : w.cell? ⟨N, 4, none⟩ = some (.int .i64 t.wo) := by unfold TC at h; simp [World.cell?, h]
theorem TC.c5 (h : TC w N p t b ag) : w.cell? ⟨N, 5, none⟩ = some (.int .i64 t.lk) := by unfold TC at h; simp [World.cell?, h]
theorem TC.c6 (h : TC w N p t b ag) : w.cell? ⟨N, 6, none⟩ = some (.int .i64 t.cu) := by unfold TC at h; simp [World.cell?, h]
theorem TC.c7 (h : TC w N p t b ag) : w.cell? ⟨N, 7, none⟩ = some (.int .i64 t.pv) := by unfold TC at h; simp [World.cell?, h]
theorem TC.c8 (h : TC w N p t b ag) : w.cell? ⟨N, 8, none⟩ = some (.int .i64 t.nt) := by unfold TC at h; simp [World.cell?, h]
theorem TC.c9 (h : TC w N p t b ag) : w.cell? ⟨N, 9, none⟩ = some (.int .i64 t.mx) := by unfold TC at h; simp [World.cell?, h]
theorem TC.c10 (h : TC w N p t b ag) : w.cell? ⟨N, 10, none⟩ = some (.int .i64 t.ps) := by unfold TC at h; simp [World.cell?, h]
theorem TC.c11 (h : TC w N p t b ag) : w.cell? ⟨N, 11, none⟩ = some (.int .i64 t.rn) := by unfold TC at h; simp [World.cell?, h]
theorem TC.c12 (h : TC w N p t b ag) : w.cell? ⟨N, 12, none⟩ = some (b) := by unfold TC at h; simp [World.cell?, h]
theorem TC.c13 (h : TC w N p t b ag) : w.cell? ⟨N, 13, none⟩ = some (.pointer (some ⟨p, 0, none⟩)) := by unfold TC at h; simp [World.cell?, h]
theorem TC.c14 (h : TC w N p t b ag) : w.cell? ⟨N, 14, none⟩ = some (.int .i64 ag) := by unfold TC at h; simp [World.cell?, h]
theorem TC.s1 (h : TC w N p t b ag) (x : Int) : TC (w.setCell ⟨N, 1, none⟩ (.int .i64 x)) N p { t with pc := x } b ag := by unfold TC; rw [heap_setCell_same w N 1 _ _ _ h]; rfl
theorem TC.s5 (h : TC w N p t b ag) (x : Int) : TC (w.setCell ⟨N, 5, none⟩ (.int .i64 x)) N p { t with lk := x } b ag := by unfold TC; rw [heap_setCell_same w N 5 _ _ _ h]; rfl
theorem TC.s6 (h : TC w N p t b ag) (x : Int) : TC (w.setCell ⟨N, 6, none⟩ (.int .i64 x)) N p { t with cu := x } b ag := by unfold TC; rw [heap_setCell_same w N 6 _ _ _ h]; rfl
theorem TC.s7 (h : TC w N p t b ag) (x : Int) : TC (w.setCell ⟨N, 7, none⟩ (.int .i64 x)) N p { t with pv := x } b ag := by unfold TC; rw [heap_setCell_same w N 7 _ _ _ h]; rfl
theorem TC.s12 (h : TC w N p t b ag) (x : Value) : TC (w.setCell ⟨N, 12, none⟩ x) N p t x ag := by unfold TC; rw [heap_setCell_same w N 12 _ _ _ h]; rfl
theorem TC.new (w : World) (p : Nat) (t : Th) (b : Value) (ag : Int) : TC (w.alloc (.cells #[.int .i64 t.ti, .int .i64 t.pc, .int .i64 t.rc, .int .i64 t.sq, .int .i64 t.wo, .int .i64 t.lk, .int .i64 t.cu, .int .i64 t.pv, .int .i64 t.nt, .int .i64 t.mx, .int .i64 t.ps, .int .i64 t.rn, b, .pointer (some ⟨p, 0, none⟩), .int .i64 ag] 90)) w.heap.size p t b ag := heap_alloc_new w _
end

theorem Did.comp {w0 w w' : World} {B p : Nat} {v0 v : Value} {size : Int} {zs : List Int} {st : Int} (h : Wrote p v0 w0 w) (l : Later v0 v w0) (d : Did B p v size zs st w w') : Did B p v0 size zs st w0 w' := by
  obtain ⟨v', m, wr, lt⟩ := d
  refine ⟨v', m, ⟨wr.os.trans h.os, wr.tape.trans h.tape, wr.output.trans h.output, Nat.le_trans h.size wr.size, fun k hk h1 h2 => ?_⟩, fun g hg => ?_⟩
  · refine (wr.block k (Nat.lt_of_lt_of_le hk h.size) h1 (fun e => ?_)).trans (h.block k hk h1 h2)
    rcases l k e with e2 | e2
    · exact h2 e2
    · omega
  · rcases lt g hg with e | e
    · exact l g e
    · exact .inr (Nat.le_trans h.size e)

def BR (M : Nat) (w : World) (b : Value) (l : List It3) : Prop := w.ownsRow M 93 3 b l.length (fi l)

structure CM (w0 : World) (M B p N : Nat) (v0 : Value) (size : Int) (t : Th) (b : Value) (ag : Int) (l : List It3) (zs : List Int) (st : Int) (w : World) : Prop where
  box : TC w N p t b ag
  did : Did B p v0 size zs st w0 w
  far : w0.heap.size ≤ N
  row : BR M w b l
  rowM : M ≤ w.heap.size

section
variable {w0 w w' : World} {M B p N : Nat} {v0 : Value} {size : Int} {t : Th} {b : Value} {ag : Int} {l : List It3} {zs zs' : List Int} {st st' : Int}
theorem BR.keep (h : BR M w b l) (hb : ∀ g, b.ownBlock = some g → w'.heap[g]? = w.heap[g]?) : BR M w' b l := _root_.Go.Proofs.Ytfnjbbokbdddpaa.own_keep h hb
theorem BR.block (h : BR M w b l) {g : Nat} (hg : b.ownBlock = some g) : ∃ cs, w.heap[g]? = some (.cells cs 93 (0, 0)) := by
  rcases h.2 with ⟨rfl, _⟩ | ⟨g', cap, cur, rfl, _, hc, _⟩
  · simp [Value.ownBlock] at hg
  · simp only [Value.ownBlock, Option.some.injEq] at hg
    subst hg
    exact ⟨_, hc⟩
theorem BR.kept (h : BR M w b l) (k : Kept w w') : BR M w' b l := h.keep fun g hg => by
  obtain ⟨cs, hc⟩ := h.block hg
  exact (k _ _ _ hc (by decide) (by decide)).trans hc.symm
theorem BR.below (h : BR M w b l) (hb : Below w.heap.size w w') : BR M w' b l := h.keep fun g hg => by
  obtain ⟨cs, hc⟩ := h.block hg
  exact hb.block g (lt_of_block hc)
theorem BR.nil (M : Nat) (w : World) : BR M w (.slice none 0 0) [] := World.ownsRow_nil w M _ 3
theorem CM.next (h : CM w0 M B p N v0 size t b ag l zs st w) {u : Value} (m : Mem w B p u size zs st) (wr : Wrote p v0 w0 w) (lt : Later v0 u w0) (x : Did B p u size zs' st' w w') : CM w0 M B p N v0 size t b ag l zs' st' w' :=
  ⟨x.kept m _ _ _ h.box (by decide) (by decide), x.comp wr lt, h.far, h.row.kept (x.kept m), by obtain ⟨_, _, y, _⟩ := x; exact Nat.le_trans h.rowM y.size⟩
theorem CM.call {f : FuncId} {args : Array Value} {R : Ending → Prop} (h : CM w0 M B p N v0 size t b ag l zs st w) (C : ∀ u, Mem w B p u size zs st → Calls Try.prog f args w fun e w' => R e ∧ Did B p u size zs' st' w w') :
    Calls Try.prog f args w fun e w' => R e ∧ CM w0 M B p N v0 size t b ag l zs' st' w' := by
  obtain ⟨u, m, wr, lt⟩ := h.did
  exact (C u m).mono fun e w' ⟨he, x⟩ => ⟨he, h.next m wr lt x⟩
theorem CM.put (h : CM w0 M B p N v0 size t b ag l zs st w) {j : Nat} {x : Value} {t' : Th} {b' : Value} {l' : List It3} (hb : TC (w.setCell ⟨N, j, none⟩ x) N p t' b' ag) (hr : BR M w b' l') : CM w0 M B p N v0 size t' b' ag l' zs st (w.setCell ⟨N, j, none⟩ x) := by
  obtain ⟨u, m, wr, lt⟩ := h.did
  refine ⟨hb, ⟨u, m.setOther (q := ⟨N, j, none⟩) ?_ ?_ _, wr.setCell (q := ⟨N, j, none⟩) (.inl h.far) _, lt⟩, h.far, hr.keep fun g hg => Below.heap_setCell _ _ _ _ ?_, by simpa [World.setCell] using h.rowM⟩
  · rintro e
    have e : N = p := e
    subst e
    have e1 := m.block
    have e2 := h.box
    unfold TC at e2
    rw [e2] at e1
    simp at e1
  · intro e
    have e : u.ownBlock = some N := e
    rcases m.own.2 with ⟨rfl, _⟩ | ⟨g, cap, cur, rfl, _, hg, _⟩
    · simp [Value.ownBlock] at e
    · simp only [Value.ownBlock, Option.some.injEq] at e
      subst e
      have e2 := h.box
      unfold TC at e2
      rw [e2] at hg
      simp at hg
  · rintro e
    have e : g = N := e
    subst e
    obtain ⟨cs, hc⟩ := hr.block hg
    have e2 := h.box
    unfold TC at e2
    rw [e2] at hc
    simp at hc
theorem CM.drew (h : CM w0 M B p N v0 size t b ag l zs st w) : CM w0 M B p N v0 size t b ag l zs st w.drew := by
  obtain ⟨u, m, wr, lt⟩ := h.did
  exact ⟨h.box, ⟨u, m.drew, wr.drew, lt⟩, h.far, h.row, h.rowM⟩
theorem CM.fresh (h : CM w0 M B p N v0 size t b ag l zs st w) (hb : Below w.heap.size w w') : CM w0 M B p N v0 size t b ag l zs st w' := by
  obtain ⟨u, m, wr, lt⟩ := h.did
  exact ⟨(hb.block N h.box.lt).trans h.box, Did.comp wr lt ⟨u, m.fresh hb, ⟨hb.os, hb.tape, hb.output, hb.size, fun k hk _ _ => hb.block k hk⟩, Later.refl _ _⟩, h.far, h.row.below hb, Nat.le_trans h.rowM hb.size⟩
theorem CM.s1 (h : CM w0 M B p N v0 size t b ag l zs st w) (x : Int) : CM w0 M B p N v0 size { t with pc := x } b ag l zs st (w.setCell ⟨N, 1, none⟩ (.int .i64 x)) := h.put (h.box.s1 x) h.row
theorem CM.s5 (h : CM w0 M B p N v0 size t b ag l zs st w) (x : Int) : CM w0 M B p N v0 size { t with lk := x } b ag l zs st (w.setCell ⟨N, 5, none⟩ (.int .i64 x)) := h.put (h.box.s5 x) h.row
theorem CM.s6 (h : CM w0 M B p N v0 size t b ag l zs st w) (x : Int) : CM w0 M B p N v0 size { t with cu := x } b ag l zs st (w.setCell ⟨N, 6, none⟩ (.int .i64 x)) := h.put (h.box.s6 x) h.row
theorem CM.s7 (h : CM w0 M B p N v0 size t b ag l zs st w) (x : Int) : CM w0 M B p N v0 size { t with pv := x } b ag l zs st (w.setCell ⟨N, 7, none⟩ (.int .i64 x)) := h.put (h.box.s7 x) h.row
theorem CM.load (h : CM w0 M B p N v0 size t b ag l zs st w) (a : Int) (k0 : 0 ≤ st) (k1 : st < 1000000) :
    Calls Try.prog 27 #[.pointer (some ⟨p, 0, none⟩), .int .i64 a] w fun e w' => e = .returned (.tuple #[.int .i64 (ld zs a), .int .u16 (ce zs a)]) ∧ CM w0 M B p N v0 size t b ag l zs (st + cn zs a) w' :=
  h.call fun _ m => loadD m a k0 k1
theorem CM.store (h : CM w0 M B p N v0 size t b ag l zs st w) (a x : Int) (k0 : 0 ≤ st) (k1 : st < 1000000) :
    Calls Try.prog 36 #[.pointer (some ⟨p, 0, none⟩), .int .i64 a, .int .i64 x] w fun e w' => e = .returned (.int .u16 (ce zs a)) ∧ CM w0 M B p N v0 size t b ag l (sto zs a x) (st + cn zs a) w' :=
  h.call fun _ m => storeD m a x k0 k1
theorem CM.swap (h : CM w0 M B p N v0 size t b ag l zs st w) (a q x : Int) (k0 : 0 ≤ st) (k1 : st < 1000000) :
    Calls Try.prog 25 #[.pointer (some ⟨p, 0, none⟩), .int .i64 a, .int .i64 q, .int .i64 x] w fun e w' => e = .returned (.tuple #[.bool (swb zs a q), .int .u16 (ce zs a)]) ∧ CM w0 M B p N v0 size t b ag l (swp zs a q x) (st + cn zs a) w' :=
  h.call fun _ m => swapD m a q x k0 k1
end

end Go.Proofs.Ytfnjbbokbdddpaa.M2
namespace Go.Proofs.Ytfnjbbokbdddpaa.M2
open Go.RowKit

section
variable {w0 w : World} {M B p N : Nat} {v0 : Value} {size : Int} {t : Th} {b : Value} {ag : Int} {l : List It3} {zs : List Int} {st : Int}

set_option maxRecDepth 100000 in
theorem loadT (h : CM w0 M B p N v0 size t b ag l zs st w) (a : Int) (k0 : 0 ≤ st) (k1 : st < 1000000) : Calls Try.prog 66 #[.pointer (some ⟨N, 0, none⟩), .int .i64 a] w fun e w' => e = .returned (.int .i64 (ld zs a)) ∧ CM w0 M B p N v0 size { t with lk := ld zs a } b ag l zs (st + cn zs a) w' := by
  have C := h.load a k0 k1
  have c13 := h.box.c13
  clear h
  go_enter Try.func66, Try.ntmps66
  go_wp2_with fail
  refine C.mono ?_
  clear C c13
  rintro e w1 ⟨rfl, h1⟩
  have c5 := h1.box.c5
  have cf := h1.box.f
  have H2 := Lib.hid (h1.s5 (ld zs a))
  have e5 := H2.out.box.c5
  clear h1
  go_wp2
  go_ret
  exact ⟨rfl, H2.out⟩

set_option maxRecDepth 100000 in
theorem storeT (h : CM w0 M B p N v0 size t b ag l zs st w) (a x : Int) (k0 : 0 ≤ st) (k1 : st < 1000000) : Calls Try.prog 67 #[.pointer (some ⟨N, 0, none⟩), .int .i64 a, .int .i64 x] w fun e w' => e = .returned (.tuple #[]) ∧ CM w0 M B p N v0 size t b ag l (sto zs a x) (st + cn zs a) w' := by
  have C := h.store a x k0 k1
  have c13 := h.box.c13
  clear h
  go_enter Try.func67, Try.ntmps67
  go_wp2_with fail
  refine C.mono ?_
  clear C c13
  rintro e w1 ⟨rfl, h1⟩
  have H1 := Lib.hid h1
  clear h1
  go_wp2
  go_end0
  exact ⟨rfl, H1.out⟩

set_option maxRecDepth 100000 in
theorem endsY (h : CM w0 M B p N v0 size t b ag l zs st w) (c : Int) (hc : t.pc ≠ c) : Calls Try.prog 61 #[.pointer (some ⟨N, 0, none⟩), .int .i64 c] w fun e w' => e = .returned (.bool true) ∧ CM w0 M B p N v0 size { t with pc := c } b ag l zs st w' := by
  have c1 := h.box.c1
  have cf := h.box.f
  have H1 := Lib.hid (h.s1 c)
  have d1 := H1.out.box.c1
  obtain ⟨y, hy⟩ : ∃ y, t.pc = y := ⟨_, rfl⟩
  rw [hy] at c1 hc
  clear h hy
  go_enter Try.func61, Try.ntmps61
  go_wp2
  go_ret
  exact ⟨by simpa using hc, H1.out⟩

set_option maxRecDepth 100000 in
theorem endsN (h : CM w0 M B p N v0 size t b ag l zs st w) (c : Int) (hc : t.pc = c) : Calls Try.prog 61 #[.pointer (some ⟨N, 0, none⟩), .int .i64 c] w fun e w' => e = .returned (.bool false) ∧ CM w0 M B p N v0 size t b ag l zs st w' := by
  have ht : ({ t with pc := c } : Th) = t := by subst hc; rfl
  have HT := Lib.hid ht
  clear ht
  have c1 := h.box.c1
  have cf := h.box.f
  have H1 := Lib.hid (h.s1 c)
  have d1 := H1.out.box.c1
  obtain ⟨y, hy⟩ : ∃ y, t.pc = y := ⟨_, rfl⟩
  rw [hy] at c1 hc
  subst hc
  clear h hy
  go_enter Try.func61, Try.ntmps61
  go_wp2
  go_ret
  exact ⟨by simp, by have := H1.out; rw [HT.out] at this; exact this⟩

set_option maxRecDepth 100000 in
theorem followP0 (h : CM w0 M B p N v0 size t b ag l zs st w) (a : Int) (hz : ld zs a = 0) (k0 : 0 ≤ st) (k1 : st < 1000000) : Calls Try.prog 60 #[.pointer (some ⟨N, 0, none⟩), .int .i64 a, .pointer (some ⟨N, 7, none⟩)] w fun e w' => e = .returned (.bool false) ∧ CM w0 M B p N v0 size { t with lk := 0, pc := 48 } b ag l zs (st + cn zs a) w' := by
  have C := loadT h a k0 k1
  rw [hz] at C
  clear h hz
  go_enter Try.func60, Try.ntmps60
  go_wp2_with fail
  refine C.mono ?_
  clear C
  rintro e w1 ⟨rfl, h1⟩
  have c1 := h1.box.c1
  have cf := h1.box.f
  have H2 := Lib.hid (h1.s1 48)
  clear h1
  go_wp2
  go_ret
  exact ⟨rfl, H2.out⟩

set_option maxRecDepth 100000 in
theorem followP (h : CM w0 M B p N v0 size t b ag l zs st w) (a : Int) (hz : ld zs a ≠ 0) (k0 : 0 ≤ st) (k1 : st < 1000000) : Calls Try.prog 60 #[.pointer (some ⟨N, 0, none⟩), .int .i64 a, .pointer (some ⟨N, 7, none⟩)] w fun e w' => e = .returned (.bool true) ∧ CM w0 M B p N v0 size { t with lk := ld zs a, pv := ld zs a } b ag l zs (st + cn zs a) w' := by
  have C := loadT h a k0 k1
  obtain ⟨y, hy⟩ : ∃ y, ld zs a = y := ⟨_, rfl⟩
  rw [hy] at C hz ⊢
  have z1 : (y == 0) = false := by simpa using hz
  clear h hy
  go_enter Try.func60, Try.ntmps60
  go_wp2_with fail
  refine C.mono ?_
  clear C
  rintro e w1 ⟨rfl, h1⟩
  have c5 := h1.box.c5
  have cj := h1.box.c7
  have cf := h1.box.f
  have H2 := Lib.hid (h1.s7 y)
  clear h1
  go_wp2
  go_ret
  exact ⟨rfl, H2.out⟩

set_option maxRecDepth 100000 in
theorem followC0 (h : CM w0 M B p N v0 size t b ag l zs st w) (a : Int) (hz : ld zs a = 0) (k0 : 0 ≤ st) (k1 : st < 1000000) : Calls Try.prog 60 #[.pointer (some ⟨N, 0, none⟩), .int .i64 a, .pointer (some ⟨N, 6, none⟩)] w fun e w' => e = .returned (.bool false) ∧ CM w0 M B p N v0 size { t with lk := 0, pc := 48 } b ag l zs (st + cn zs a) w' := by
  have C := loadT h a k0 k1
  rw [hz] at C
  clear h hz
  go_enter Try.func60, Try.ntmps60
  go_wp2_with fail
  refine C.mono ?_
  clear C
  rintro e w1 ⟨rfl, h1⟩
  have c1 := h1.box.c1
  have cf := h1.box.f
  have H2 := Lib.hid (h1.s1 48)
  clear h1
  go_wp2
  go_ret
  exact ⟨rfl, H2.out⟩

set_option maxRecDepth 100000 in
theorem followC (h : CM w0 M B p N v0 size t b ag l zs st w) (a : Int) (hz : ld zs a ≠ 0) (k0 : 0 ≤ st) (k1 : st < 1000000) : Calls Try.prog 60 #[.pointer (some ⟨N, 0, none⟩), .int .i64 a, .pointer (some ⟨N, 6, none⟩)] w fun e w' => e = .returned (.bool true) ∧ CM w0 M B p N v0 size { t with lk := ld zs a, cu := ld zs a } b ag l zs (st + cn zs a) w' := by
  have C := loadT h a k0 k1
  obtain ⟨y, hy⟩ : ∃ y, ld zs a = y := ⟨_, rfl⟩
  rw [hy] at C hz ⊢
  have z1 : (y == 0) = false := by simpa using hz
  clear h hy
  go_enter Try.func60, Try.ntmps60
  go_wp2_with fail
  refine C.mono ?_
  clear C
  rintro e w1 ⟨rfl, h1⟩
  have c5 := h1.box.c5
  have cj := h1.box.c6
  have cf := h1.box.f
  have H2 := Lib.hid (h1.s6 y)
  clear h1
  go_wp2
  go_ret
  exact ⟨rfl, H2.out⟩

set_option maxRecDepth 100000 in
theorem takesY (h : CM w0 M B p N v0 size t b ag l zs st w) : Calls Try.prog 62 #[.pointer (some ⟨N, 0, none⟩), .bool true] w fun e w' => e = .returned (.bool true) ∧ CM w0 M B p N v0 size t b ag l zs st w' := by
  have H1 := Lib.hid h
  clear h
  go_enter Try.func62, Try.ntmps62
  go_wp2
  go_ret
  exact ⟨rfl, H1.out⟩

set_option maxRecDepth 100000 in
theorem takesN (h : CM w0 M B p N v0 size t b ag l zs st w) : Calls Try.prog 62 #[.pointer (some ⟨N, 0, none⟩), .bool false] w fun e w' => e = .returned (.bool false) ∧ CM w0 M B p N v0 size (byT t) b ag l zs st w' := by
  have c6 := h.box.c6
  have c7 := h.box.c7
  have cf := h.box.f
  have H1 := h.s7 t.cu
  have c1 := H1.box.c1
  have df := H1.box.f
  have H2 := Lib.hid (H1.s1 41)
  clear h H1
  go_enter Try.func62, Try.ntmps62
  go_wp2
  go_ret
  exact ⟨rfl, H2.out⟩

set_option maxRecDepth 100000 in
theorem liveT (h : CM w0 M B p N v0 size t b ag l zs st w) (k0 : 0 ≤ st) (k1 : st < 1000000) : Calls Try.prog 63 #[.pointer (some ⟨N, 0, none⟩)] w fun e w' => e = .returned (.bool (ld zs (ad t.cu 1) == 1)) ∧ CM w0 M B p N v0 size { t with lk := ld zs (ad t.cu 1) } b ag l zs (st + cn zs (ad t.cu 1)) w' := by
  have C := loadT h (ad t.cu 1) k0 k1
  have c6 := h.box.c6
  have cf := h.box.f
  rw [show ad t.cu 1 = wrap64 (t.cu + 1) from rfl] at C ⊢
  clear h
  go_enter Try.func63, Try.ntmps63
  go_wp2_with fail
  refine C.mono ?_
  clear C c6 cf
  rintro e w1 ⟨rfl, h1⟩
  have H1 := Lib.hid h1
  clear h1
  go_wp2
  go_ret
  exact ⟨rfl, H1.out⟩

set_option maxRecDepth 100000 in
theorem oldT (h : CM w0 M B p N v0 size t b ag l zs st w) (k0 : 0 ≤ st) (k1 : st < 1000000) : Calls Try.prog 64 #[.pointer (some ⟨N, 0, none⟩)] w fun e w' => e = .returned (.bool (decide (ag < wrap64 (t.ps - ld zs (ad t.cu 2))))) ∧ CM w0 M B p N v0 size { t with lk := ld zs (ad t.cu 2) } b ag l zs (st + cn zs (ad t.cu 2)) w' := by
  have hd := h.drew
  have C := loadT hd (IntKind.i64.wrap (t.cu + 2)) k0 k1
  rw [show ld zs (IntKind.i64.wrap (t.cu + 2)) = ld zs (ad t.cu 2) by rw [IntWalk.i64_left]; rfl, show cn zs (IntKind.i64.wrap (t.cu + 2)) = cn zs (ad t.cu 2) by rw [IntWalk.i64_left]; rfl] at C
  have i0 : (fun w' : World => w'.cell? ⟨N, 10, none⟩ = some (.int .i64 t.ps) ∧ w'.cell? ⟨N, 6, none⟩ = some (.int .i64 t.cu) ∧ w'.cell? ⟨N, 14, none⟩ = some (.int .i64 ag)) w := ⟨h.box.c10, h.box.c6, h.box.c14⟩
  have i2 : (fun w' : World => w'.cell? ⟨N, 10, none⟩ = some (.int .i64 t.ps) ∧ w'.cell? ⟨N, 6, none⟩ = some (.int .i64 t.cu) ∧ w'.cell? ⟨N, 14, none⟩ = some (.int .i64 ag)) w.drew := ⟨hd.box.c10, hd.box.c6, hd.box.c14⟩
  have cf := h.box.f
  clear h hd
  go_enter Try.func64, Try.ntmps64
  go_wp2
  go_region_held3 (fun w' : World => w'.cell? ⟨N, 10, none⟩ = some (.int .i64 t.ps) ∧ w'.cell? ⟨N, 6, none⟩ = some (.int .i64 t.cu) ∧ w'.cell? ⟨N, 14, none⟩ = some (.int .i64 ag)) (first | with_reducible exact i0 | with_reducible exact i1 | with_reducible exact i2) (first
    | ((with_reducible refine C.mono ?_); rintro e w1 ⟨rfl, h1⟩; have i1 : (fun w' : World => w'.cell? ⟨N, 10, none⟩ = some (.int .i64 t.ps) ∧ w'.cell? ⟨N, 6, none⟩ = some (.int .i64 t.cu) ∧ w'.cell? ⟨N, 14, none⟩ = some (.int .i64 ag)) _ := ⟨h1.box.c10, h1.box.c6, h1.box.c14⟩; have H2 := Lib.hid h1; clear h1))
  all_goals (go_wp2; go_ret; exact ⟨by rw [← IntWalk.i64_left]; rfl, H2.out⟩)

set_option maxRecDepth 100000 in
theorem closesT (h : CM w0 M B p N v0 size t b ag l zs st w) (k0 : 0 ≤ st) (k1 : st < 1000000) : Calls Try.prog 65 #[.pointer (some ⟨N, 0, none⟩)] w fun e w' => e = .returned (.bool (swb zs (ad t.cu 0) 0)) ∧ CM w0 M B p N v0 size t b ag l (swp zs (ad t.cu 0) 0 (-1)) (st + cn zs (ad t.cu 0)) w' := by
  have hd := h.drew
  have C := hd.swap (IntKind.i64.wrap t.cu) 0 (-1) k0 k1
  rw [show ad t.cu 0 = IntKind.i64.wrap t.cu by rw [IntWalk.i64_left]; unfold ad; rw [Int.add_zero]] at ⊢
  have i0 : (fun w' : World => w'.cell? ⟨N, 13, none⟩ = some (.pointer (some ⟨p, 0, none⟩)) ∧ w'.cell? ⟨N, 6, none⟩ = some (.int .i64 t.cu)) w := ⟨h.box.c13, h.box.c6⟩
  have i2 : (fun w' : World => w'.cell? ⟨N, 13, none⟩ = some (.pointer (some ⟨p, 0, none⟩)) ∧ w'.cell? ⟨N, 6, none⟩ = some (.int .i64 t.cu)) w.drew := ⟨hd.box.c13, hd.box.c6⟩
  have cf := h.box.f
  clear h hd
  go_enter Try.func65, Try.ntmps65
  go_wp2
  go_region_held3 (fun w' : World => w'.cell? ⟨N, 13, none⟩ = some (.pointer (some ⟨p, 0, none⟩)) ∧ w'.cell? ⟨N, 6, none⟩ = some (.int .i64 t.cu)) (first | with_reducible exact i0 | with_reducible exact i1 | with_reducible exact i2) (first
    | ((with_reducible refine C.mono ?_); rintro e w1 ⟨rfl, h1⟩; have i1 : (fun w' : World => w'.cell? ⟨N, 13, none⟩ = some (.pointer (some ⟨p, 0, none⟩)) ∧ w'.cell? ⟨N, 6, none⟩ = some (.int .i64 t.cu)) _ := ⟨h1.box.c13, h1.box.c6⟩; have H2 := Lib.hid h1; clear h1))
  all_goals (go_wp2; go_ret; exact ⟨rfl, H2.out⟩)
end

end Go.Proofs.Ytfnjbbokbdddpaa.M2
