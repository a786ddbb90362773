/-
  What a call on a memory tells whatever the address is: Load, Store, Swap and Alloc of five cells, the program's and the document's; threads in plain numbers, and what a step makes of one. Conditions: a memory as Mem says; steps below a million. What a step of who sweeps makes of a thread and of the cells, in plain numbers (package sweep). Conditions: none; no Go function is looked at here. A thread in a block of its own, its batch (a list of items), a document's memory beside it. Conditions: none; no Go function is looked at here. A turn (package sweep) in a block of its own beside the memory it steps at. Conditions: none; no Go function is looked at here. The small calls of a turn (package sweep): load, store, ends, follow, takes, live, old, closes. Conditions: a turn beside its memory, as CM says; steps below a million. act of a turn (package sweep): a switch whose cases go on into one another; each place does its step, and ends ahead of the next one. Conditions: a turn beside its memory, as CM says; steps below a million. slices.Clone of items: a row of one's own. Conditions: at most a million items, that lie in memory. Sweeps and Step of package sweep: what a step makes of a thread and of the memory. Conditions: a memory as Mem says; a batch of at most a thousand items, that lies in memory; steps below a million. Step of package sweep of a thread without a batch. Conditions: a memory as Mem1 says; steps below a million.
-/
import Derived.Test.YtfnjbbokbdddpaaG0317
import Derived.Test.YtfnjbbokbdddpaaG0217
import Derived.BigRegion
import Derived.BigQuiet
import Derived.Deep.RegionHeld3
namespace Go.Proofs.Ytfnjbbokbdddpaa.M2
open Go.RowKit

def ld (zs : List Int) (a : Int) : Int := if 0 ≤ a ∧ a < zs.length then zs.getD a.toNat 0 else 0
def ce (zs : List Int) (a : Int) : Int := if 0 ≤ a ∧ a < zs.length then 0 else 10
def cn (zs : List Int) (a : Int) : Int := if 0 ≤ a ∧ a < zs.length then 1 else 0
def sto (zs : List Int) (a x : Int) : List Int := if 0 ≤ a ∧ a < zs.length then zs.set a.toNat x else zs
def swb (zs : List Int) (a o : Int) : Bool := decide (0 ≤ a ∧ a < zs.length ∧ zs.getD a.toNat 0 = o)
def swp (zs : List Int) (a o x : Int) : List Int := if 0 ≤ a ∧ a < zs.length ∧ zs.getD a.toNat 0 = o then zs.set a.toNat x else zs
theorem cn_bd (zs : List Int) (a : Int) : 0 ≤ cn zs a ∧ cn zs a ≤ 1 := by unfold cn; split <;> omega
theorem sto_length (zs : List Int) (a x : Int) : (sto zs a x).length = zs.length := by unfold sto; split <;> simp
theorem swp_length (zs : List Int) (a o x : Int) : (swp zs a o x).length = zs.length := by unfold swp; split <;> simp

section
variable {w : World} {B p : Nat} {v : Value} {size : Int} {zs : List Int} {st : Int}

theorem loadD (m : Mem w B p v size zs st) (a : Int) (k0 : 0 ≤ st) (k1 : st < 1000000) :
    Calls Try.prog 27 #[.pointer (some ⟨p, 0, none⟩), .int .i64 a] w fun e w' => e = .returned (.tuple #[.int .i64 (ld zs a), .int .u16 (ce zs a)]) ∧ Did B p v size zs (st + cn zs a) w w' := by
  by_cases h : 0 ≤ a ∧ a < zs.length
  · rw [show ld zs a = zs.getD a.toNat 0 from if_pos h, show ce zs a = 0 from if_pos h, show cn zs a = 1 from if_pos h]
    exact loadIn m a h.1 h.2 k0 k1
  · rw [show ld zs a = 0 from if_neg h, show ce zs a = 10 from if_neg h, show cn zs a = 0 from if_neg h, Int.add_zero]
    exact loadOut m a (by omega)

theorem storeD (m : Mem w B p v size zs st) (a x : Int) (k0 : 0 ≤ st) (k1 : st < 1000000) :
    Calls Try.prog 36 #[.pointer (some ⟨p, 0, none⟩), .int .i64 a, .int .i64 x] w fun e w' => e = .returned (.int .u16 (ce zs a)) ∧ Did B p v size (sto zs a x) (st + cn zs a) w w' := by
  by_cases h : 0 ≤ a ∧ a < zs.length
  · rw [show sto zs a x = zs.set a.toNat x from if_pos h, show ce zs a = 0 from if_pos h, show cn zs a = 1 from if_pos h]
    exact storeIn m a x h.1 h.2 k0 k1
  · rw [show sto zs a x = zs from if_neg h, show ce zs a = 10 from if_neg h, show cn zs a = 0 from if_neg h, Int.add_zero]
    exact storeOut m a x (by omega)

theorem swapD (m : Mem w B p v size zs st) (a o x : Int) (k0 : 0 ≤ st) (k1 : st < 1000000) :
    Calls Try.prog 25 #[.pointer (some ⟨p, 0, none⟩), .int .i64 a, .int .i64 o, .int .i64 x] w fun e w' => e = .returned (.tuple #[.bool (swb zs a o), .int .u16 (ce zs a)]) ∧ Did B p v size (swp zs a o x) (st + cn zs a) w w' := by
  by_cases h : 0 ≤ a ∧ a < zs.length
  · rw [show ce zs a = 0 from if_pos h, show cn zs a = 1 from if_pos h]
    by_cases ho : zs.getD a.toNat 0 = o
    · rw [show swb zs a o = true from decide_eq_true ⟨h.1, h.2, ho⟩, show swp zs a o x = zs.set a.toNat x from if_pos ⟨h.1, h.2, ho⟩]
      exact swapIn m a o x h.1 h.2 ho k0 k1
    · rw [show swb zs a o = false from decide_eq_false (fun k => ho k.2.2), show swp zs a o x = zs from if_neg (fun k => ho k.2.2)]
      exact swapNo m a o x h.1 h.2 ho k0 k1
  · rw [show swb zs a o = false from decide_eq_false (fun k => h ⟨k.1, k.2.1⟩), show swp zs a o x = zs from if_neg (fun k => h ⟨k.1, k.2.1⟩), show ce zs a = 10 from if_neg h, show cn zs a = 0 from if_neg h, Int.add_zero]
    exact swapOut m a o x (by omega)

end

section
variable {w : World} {B : Nat} {u : Value} {size : Int} {zs : List Int} {st : Int}

theorem refLoadD (h : w.ownsRow B 2 1 u zs.length (zs.map (Value.int .i64))) (hB : B ≤ w.heap.size) (a : Int) (k0 : 0 ≤ st) (k1 : st < 1000000) :
    Calls Try.prog 68 #[.agg #[.int .i64 size, u, .int .i64 st], .int .i64 a] w fun e w' => ∃ u', e = .returned (.tuple #[.agg #[.int .i64 size, u', .int .i64 (st + cn zs a)], .int .i64 (ld zs a), .int .i64 (ce zs a)]) ∧ Left w B u zs u' w' := by
  by_cases i : 0 ≤ a ∧ a < zs.length
  · rw [show ld zs a = zs.getD a.toNat 0 from if_pos i, show ce zs a = 0 from if_pos i, show cn zs a = 1 from if_pos i]
    exact refLoadIn h hB a i.1 i.2 k0 k1
  · rw [show ld zs a = 0 from if_neg i, show ce zs a = 10 from if_neg i, show cn zs a = 0 from if_neg i, Int.add_zero]
    exact refLoadOut h hB a (by omega)

theorem refStoreD (h : w.ownsRow B 2 1 u zs.length (zs.map (Value.int .i64))) (hB : B ≤ w.heap.size) (hl : zs.length ≤ 1000) (a x : Int) (k0 : 0 ≤ st) (k1 : st < 1000000) :
    Calls Try.prog 37 #[.agg #[.int .i64 size, u, .int .i64 st], .int .i64 a, .int .i64 x] w fun e w' => ∃ u', e = .returned (.tuple #[.agg #[.int .i64 size, u', .int .i64 (st + cn zs a)], .int .i64 (ce zs a)]) ∧ Left w B u (sto zs a x) u' w' := by
  by_cases i : 0 ≤ a ∧ a < zs.length
  · rw [show sto zs a x = zs.set a.toNat x from if_pos i, show ce zs a = 0 from if_pos i, show cn zs a = 1 from if_pos i]
    exact refStoreIn h hB a x i.1 i.2 hl k0 k1
  · rw [show sto zs a x = zs from if_neg i, show ce zs a = 10 from if_neg i, show cn zs a = 0 from if_neg i, Int.add_zero]
    exact refStoreOut h hB a x (by omega)

theorem refSwapD (h : w.ownsRow B 2 1 u zs.length (zs.map (Value.int .i64))) (hB : B ≤ w.heap.size) (hl : zs.length ≤ 1000) (a o x : Int) (k0 : 0 ≤ st) (k1 : st < 1000000) :
    Calls Try.prog 48 #[.agg #[.int .i64 size, u, .int .i64 st], .int .i64 a, .int .i64 o, .int .i64 x] w fun e w' => ∃ u', e = .returned (.tuple #[.agg #[.int .i64 size, u', .int .i64 (st + cn zs a)], .bool (swb zs a o), .int .i64 (ce zs a)]) ∧ Left w B u (swp zs a o x) u' w' := by
  by_cases i : 0 ≤ a ∧ a < zs.length
  · rw [show ce zs a = 0 from if_pos i, show cn zs a = 1 from if_pos i]
    by_cases ho : zs.getD a.toNat 0 = o
    · rw [show swb zs a o = true from decide_eq_true ⟨i.1, i.2, ho⟩, show swp zs a o x = zs.set a.toNat x from if_pos ⟨i.1, i.2, ho⟩]
      exact refSwapIn h hB a o x i.1 i.2 ho hl k0 k1
    · rw [show swb zs a o = false from decide_eq_false (fun k => ho k.2.2), show swp zs a o x = zs from if_neg (fun k => ho k.2.2)]
      exact refSwapNo h hB a o x i.1 i.2 ho hl k0 k1
  · rw [show swb zs a o = false from decide_eq_false (fun k => i ⟨k.1, k.2.1⟩), show swp zs a o x = zs from if_neg (fun k => i ⟨k.1, k.2.1⟩), show ce zs a = 10 from if_neg i, show cn zs a = 0 from if_neg i, Int.add_zero]
    exact refSwapOut h hB a o x (by omega)

end

structure Th where
  ti : Int
  pc : Int
  rc : Int
  sq : Int
  wo : Int
  lk : Int
  cu : Int
  pv : Int
  nt : Int
  mx : Int
  ps : Int
  rn : Int

def thV (t : Th) (b : Value) : Value := .agg #[.int .i64 t.ti, .int .i64 t.pc, .int .i64 t.rc, .int .i64 t.sq, .int .i64 t.wo, .int .i64 t.lk, .int .i64 t.cu, .int .i64 t.pv, .int .i64 t.nt, .int .i64 t.mx, .int .i64 t.ps, .int .i64 t.rn, b]

def ad (a b : Int) : Int := wrap64 (a + b)
end Go.Proofs.Ytfnjbbokbdddpaa.M2
namespace Go.Proofs.Ytfnjbbokbdddpaa.M2
open Go.RowKit

abbrev It3 := Int × Int × Int

structure Sw where
  t : Th
  zs : List Int
  c : Int

def byT (t : Th) : Th := { t with pv := t.cu, pc := 41 }
def tkT (is : Bool) (e : Int) (t : Th) : Th := if is then { t with pc := e } else byT t

def swt (ag : Int) (t : Th) (zs : List Int) : Sw :=
  if t.pc = 40 then ⟨if ld zs 1 = 0 then { t with lk := 0, pc := 48 } else { t with lk := ld zs 1, pv := ld zs 1, pc := 41 }, zs, cn zs 1⟩
  else if t.pc = 41 then ⟨if ld zs (ad t.pv 3) = 0 then { t with lk := 0, pc := 48 } else { t with lk := ld zs (ad t.pv 3), cu := ld zs (ad t.pv 3), pc := 42 }, zs, cn zs (ad t.pv 3)⟩
  else if t.pc = 42 then ⟨tkT (ld zs (ad t.cu 1) == 1) 43 { t with lk := ld zs (ad t.cu 1) }, zs, cn zs (ad t.cu 1)⟩
  else if t.pc = 43 then ⟨tkT (decide (ag < wrap64 (t.ps - ld zs (ad t.cu 2)))) 44 { t with lk := ld zs (ad t.cu 2) }, zs, cn zs (ad t.cu 2)⟩
  else if t.pc = 44 then ⟨tkT (swb zs (ad t.cu 0) 0) 45 t, swp zs (ad t.cu 0) 0 (-1), cn zs (ad t.cu 0)⟩
  else if t.pc = 45 then ⟨{ t with lk := ld zs (ad t.cu 3), pc := 46 }, zs, cn zs (ad t.cu 3)⟩
  else if t.pc = 46 then ⟨{ t with pc := 47 }, sto zs (ad t.pv 3) t.lk, cn zs (ad t.pv 3)⟩
  else if t.pc = 47 then ⟨{ t with pc := 41 }, sto zs (ad t.cu 1) 0, cn zs (ad t.cu 1)⟩
  else if t.pc = 48 then ⟨{ t with pc := 11 }, sto zs 0 0, cn zs 0⟩
  else ⟨t, zs, 0⟩

theorem swt40 (ag : Int) (t : Th) (zs : List Int) (h : t.pc = 40) : swt ag t zs = ⟨if ld zs 1 = 0 then { t with lk := 0, pc := 48 } else { t with lk := ld zs 1, pv := ld zs 1, pc := 41 }, zs, cn zs 1⟩ := by
  unfold swt
  simp only [h]
  simp
theorem swt41 (ag : Int) (t : Th) (zs : List Int) (h : t.pc = 41) : swt ag t zs = ⟨if ld zs (ad t.pv 3) = 0 then { t with lk := 0, pc := 48 } else { t with lk := ld zs (ad t.pv 3), cu := ld zs (ad t.pv 3), pc := 42 }, zs, cn zs (ad t.pv 3)⟩ := by
  unfold swt
  simp only [h]
  simp
theorem swt42 (ag : Int) (t : Th) (zs : List Int) (h : t.pc = 42) : swt ag t zs = ⟨tkT (ld zs (ad t.cu 1) == 1) 43 { t with lk := ld zs (ad t.cu 1) }, zs, cn zs (ad t.cu 1)⟩ := by
  unfold swt
  simp only [h]
  simp
theorem swt43 (ag : Int) (t : Th) (zs : List Int) (h : t.pc = 43) : swt ag t zs = ⟨tkT (decide (ag < wrap64 (t.ps - ld zs (ad t.cu 2)))) 44 { t with lk := ld zs (ad t.cu 2) }, zs, cn zs (ad t.cu 2)⟩ := by
  unfold swt
  simp only [h]
  simp
theorem swt44 (ag : Int) (t : Th) (zs : List Int) (h : t.pc = 44) : swt ag t zs = ⟨tkT (swb zs (ad t.cu 0) 0) 45 t, swp zs (ad t.cu 0) 0 (-1), cn zs (ad t.cu 0)⟩ := by
  unfold swt
  simp only [h]
  simp
theorem swt45 (ag : Int) (t : Th) (zs : List Int) (h : t.pc = 45) : swt ag t zs = ⟨{ t with lk := ld zs (ad t.cu 3), pc := 46 }, zs, cn zs (ad t.cu 3)⟩ := by
  unfold swt
  simp only [h]
  simp
theorem swt46 (ag : Int) (t : Th) (zs : List Int) (h : t.pc = 46) : swt ag t zs = ⟨{ t with pc := 47 }, sto zs (ad t.pv 3) t.lk, cn zs (ad t.pv 3)⟩ := by
  unfold swt
  simp only [h]
  simp
theorem swt47 (ag : Int) (t : Th) (zs : List Int) (h : t.pc = 47) : swt ag t zs = ⟨{ t with pc := 41 }, sto zs (ad t.cu 1) 0, cn zs (ad t.cu 1)⟩ := by
  unfold swt
  simp only [h]
  simp
theorem swt48 (ag : Int) (t : Th) (zs : List Int) (h : t.pc = 48) : swt ag t zs = ⟨{ t with pc := 11 }, sto zs 0 0, cn zs 0⟩ := by
  unfold swt
  simp only [h]
  simp
theorem swt0 (ag : Int) (t : Th) (zs : List Int) (h : ¬ (40 ≤ t.pc ∧ t.pc ≤ 48)) : swt ag t zs = ⟨t, zs, 0⟩ := by
  unfold swt
  rw [if_neg (by omega)]; rw [if_neg (by omega)]; rw [if_neg (by omega)]; rw [if_neg (by omega)]; rw [if_neg (by omega)]; rw [if_neg (by omega)]; rw [if_neg (by omega)]; rw [if_neg (by omega)]; rw [if_neg (by omega)]
theorem swt_c (ag : Int) (t : Th) (zs : List Int) : 0 ≤ (swt ag t zs).c ∧ (swt ag t zs).c ≤ 1 := by
  have h := cn_bd zs
  unfold swt
  repeat' split
  all_goals first | exact h _ | simp
theorem swt_len (ag : Int) (t : Th) (zs : List Int) : (swt ag t zs).zs.length = zs.length := by
  unfold swt
  repeat' split
  all_goals simp [sto_length, swp_length]

end Go.Proofs.Ytfnjbbokbdddpaa.M2
namespace Go.Proofs.Ytfnjbbokbdddpaa.M2
open Go.RowKit

def TX (w : World) (g : Nat) (t : Th) (b : Value) : Prop := w.heap[g]? = some (.cells #[.int .i64 t.ti, .int .i64 t.pc, .int .i64 t.rc, .int .i64 t.sq, .int .i64 t.wo, .int .i64 t.lk, .int .i64 t.cu, .int .i64 t.pv, .int .i64 t.nt, .int .i64 t.mx, .int .i64 t.ps, .int .i64 t.rn, b] 25 (0, 0))
def t0 : Th := ⟨0, 0, 0, 0, 0, 0, 0, 0, 0, 0, 0, 0⟩

section
variable {w w' : World} {g : Nat} {t t' : Th} {b b' : Value}
theorem TX.lt (h : TX w g t b) : g < w.heap.size := lt_of_block h
theorem TX.f (h : TX w g t b) (o : Nat) : w.frozen? ⟨g, o, none⟩ = false := by unfold TX at h; simp [World.frozen?, h]
theorem TX.keep (h : TX w g t b) (hb : Below w.heap.size w w') : TX w' g t b := (hb.block g h.lt).trans h
theorem TX.alloc (h : TX w g t b) (o : Obj) : TX (w.alloc o) g t b := (Below.heap_alloc _ _ _ h.lt).trans h
theorem TX.other (h : TX w g t b) {q : Addr} (hq : q.block ≠ g) (x : Value) : TX (w.setCell q x) g t b := (Below.heap_setCell _ _ _ _ (fun e => hq e.symm)).trans h
theorem TX.new (w : World) (t : Th) (b : Value) : TX (w.alloc (.cells #[.int .i64 t.ti, .int .i64 t.pc, .int .i64 t.rc, .int .i64 t.sq, .int .i64 t.wo, .int .i64 t.lk, .int .i64 t.cu, .int .i64 t.pv, .int .i64 t.nt, .int .i64 t.mx, .int .i64 t.ps, .int .i64 t.rn, b] 25)) w.heap.size t b := heap_alloc_new w _
theorem TX.drew (h : TX w g t b) : TX w.drew g t b := h
theorem TX.c0 (h : TX w g t b) : w.cell? ⟨g, 0, none⟩ = some (.int .i64 t.ti) := by unfold TX at h; simp [World.cell?, h]
theorem TX.c1 (h : TX w g t b) : w.cell? ⟨g, 1, none⟩ = some (.int .i64 t.pc) := by unfold TX at h; simp [World.cell?, h]
theorem TX.c2 (h : TX w g t b) : w.cell? ⟨g, 2, none⟩ = some (.int .i64 t.rc) := by unfold TX at h; simp [World.cell?, h]
theorem TX.c3 (h : TX w g t b) : w.cell? ⟨g, 3, none⟩ = some (.int .i64 t.sq) := by unfold TX at h; simp [World.cell?, h]
theorem TX.c4 (h : TX w g t b) : w.cell? ⟨g, 4, none⟩ = some (.int .i64 t.wo) := by unfold TX at h; simp [World.cell?, h]
theorem TX.c5 (h : TX w g t b) : w.cell? ⟨g, 5, none⟩ = some (.int .i64 t.lk) := by unfold TX at h; simp [World.cell?, h]
theorem TX.c6 (h : TX w g t b) : w.cell? ⟨g, 6, none⟩ = some (.int .i64 t.cu) := by unfold TX at h; simp [World.cell?, h]
theorem TX.c7 (h : TX w g t b) : w.cell? ⟨g, 7, none⟩ = some (.int .i64 t.pv) := by unfold TX at h; simp [World.cell?, h]
theorem TX.c8 (h : TX w g t b) : w.cell? ⟨g, 8, none⟩ = some (.int .i64 t.nt) := by unfold TX at h; simp [World.cell?, h]
theorem TX.c9 (h : TX w g t b) : w.cell? ⟨g, 9, none⟩ = some (.int .i64 t.mx) := by unfold TX at h; simp [World.cell?, h]
theorem TX.c10 (h : TX w g t b) : w.cell? ⟨g, 10, none⟩ = some (.int .i64 t.ps) := by unfold TX at h; simp [World.cell?, h]
theorem TX.c11 (h : TX w g t b) : w.cell? ⟨g, 11, none⟩ = some (.int .i64 t.rn) := by unfold TX at h; simp [World.cell?, h]
theorem TX.c12 (h : TX w g t b) : w.cell? ⟨g, 12, none⟩ = some (b) := by unfold TX at h; simp [World.cell?, h]
theorem TX.s0 (h : TX w g t b) (x : Int) : TX (w.setCell ⟨g, 0, none⟩ (.int .i64 x)) g { t with ti := x } b := by unfold TX; rw [heap_setCell_same w g 0 _ _ _ h]; rfl
theorem TX.s1 (h : TX w g t b) (x : Int) : TX (w.setCell ⟨g, 1, none⟩ (.int .i64 x)) g { t with pc := x } b := by unfold TX; rw [heap_setCell_same w g 1 _ _ _ h]; rfl
theorem TX.s2 (h : TX w g t b) (x : Int) : TX (w.setCell ⟨g, 2, none⟩ (.int .i64 x)) g { t with rc := x } b := by unfold TX; rw [heap_setCell_same w g 2 _ _ _ h]; rfl
theorem TX.s3 (h : TX w g t b) (x : Int) : TX (w.setCell ⟨g, 3, none⟩ (.int .i64 x)) g { t with sq := x } b := by unfold TX; rw [heap_setCell_same w g 3 _ _ _ h]; rfl
theorem TX.s4 (h : TX w g t b) (x : Int) : TX (w.setCell ⟨g, 4, none⟩ (.int .i64 x)) g { t with wo := x } b := by unfold TX; rw [heap_setCell_same w g 4 _ _ _ h]; rfl
theorem TX.s5 (h : TX w g t b) (x : Int) : TX (w.setCell ⟨g, 5, none⟩ (.int .i64 x)) g { t with lk := x } b := by unfold TX; rw [heap_setCell_same w g 5 _ _ _ h]; rfl
theorem TX.s6 (h : TX w g t b) (x : Int) : TX (w.setCell ⟨g, 6, none⟩ (.int .i64 x)) g { t with cu := x } b := by unfold TX; rw [heap_setCell_same w g 6 _ _ _ h]; rfl
theorem TX.s7 (h : TX w g t b) (x : Int) : TX (w.setCell ⟨g, 7, none⟩ (.int .i64 x)) g { t with pv := x } b := by unfold TX; rw [heap_setCell_same w g 7 _ _ _ h]; rfl
theorem TX.s8 (h : TX w g t b) (x : Int) : TX (w.setCell ⟨g, 8, none⟩ (.int .i64 x)) g { t with nt := x } b := by unfold TX; rw [heap_setCell_same w g 8 _ _ _ h]; rfl
theorem TX.s9 (h : TX w g t b) (x : Int) : TX (w.setCell ⟨g, 9, none⟩ (.int .i64 x)) g { t with mx := x } b := by unfold TX; rw [heap_setCell_same w g 9 _ _ _ h]; rfl
theorem TX.s10 (h : TX w g t b) (x : Int) : TX (w.setCell ⟨g, 10, none⟩ (.int .i64 x)) g { t with ps := x } b := by unfold TX; rw [heap_setCell_same w g 10 _ _ _ h]; rfl
theorem TX.s11 (h : TX w g t b) (x : Int) : TX (w.setCell ⟨g, 11, none⟩ (.int .i64 x)) g { t with rn := x } b := by unfold TX; rw [heap_setCell_same w g 11 _ _ _ h]; rfl
theorem TX.s12 (h : TX w g t b) (x : Value) : TX (w.setCell ⟨g, 12, none⟩ x) g t x := by unfold TX; rw [heap_setCell_same w g 12 _ _ _ h]; rfl
def setT (w : World) (g : Nat) (t : Th) (b : Value) : World := (((((((((((((w.setCell ⟨g, 0, none⟩ (.int .i64 t.ti)).setCell ⟨g, 1, none⟩ (.int .i64 t.pc)).setCell ⟨g, 2, none⟩ (.int .i64 t.rc)).setCell ⟨g, 3, none⟩ (.int .i64 t.sq)).setCell ⟨g, 4, none⟩ (.int .i64 t.wo)).setCell ⟨g, 5, none⟩ (.int .i64 t.lk)).setCell ⟨g, 6, none⟩ (.int .i64 t.cu)).setCell ⟨g, 7, none⟩ (.int .i64 t.pv)).setCell ⟨g, 8, none⟩ (.int .i64 t.nt)).setCell ⟨g, 9, none⟩ (.int .i64 t.mx)).setCell ⟨g, 10, none⟩ (.int .i64 t.ps)).setCell ⟨g, 11, none⟩ (.int .i64 t.rn)).setCell ⟨g, 12, none⟩ b)
theorem TX.all (h : TX w g t b) (t' : Th) (b' : Value) : TX (setT w g t' b') g t' b' :=
  ((((((((((((h.s0 t'.ti).s1 t'.pc).s2 t'.rc).s3 t'.sq).s4 t'.wo).s5 t'.lk).s6 t'.cu).s7 t'.pv).s8 t'.nt).s9 t'.mx).s10 t'.ps).s11 t'.rn).s12 b'
theorem setT_other (w : World) {g k : Nat} (hk : k ≠ g) (t : Th) (b : Value) : (setT w g t b).heap[k]? = w.heap[k]? := by
  unfold setT
  repeat rw [Below.heap_setCell _ _ _ _ (by simpa using hk)]
theorem setT_size (w : World) (g : Nat) (t : Th) (b : Value) : (setT w g t b).heap.size = w.heap.size := by simp [setT, World.setCell]
theorem setT_below {a w : World} {B g : Nat} (h : Below B a w) (hg : B ≤ g) (t : Th) (b : Value) : Below B a (setT w g t b) := by
  unfold setT
  exact (((((((((((((h.setCell (by simpa using hg) _).setCell (by simpa using hg) _).setCell (by simpa using hg) _).setCell (by simpa using hg) _).setCell (by simpa using hg) _).setCell (by simpa using hg) _).setCell (by simpa using hg) _).setCell (by simpa using hg) _).setCell (by simpa using hg) _).setCell (by simpa using hg) _).setCell (by simpa using hg) _).setCell (by simpa using hg) _).setCell (by simpa using hg) _)
end

def fi (l : List (Int × Int × Int)) : List Value := l.flatMap fun i => [.int .i64 i.1, .int .i64 i.2.1, .int .i64 i.2.2]
theorem fi_cons (i : Int × Int × Int) (l : List (Int × Int × Int)) : fi (i :: l) = .int .i64 i.1 :: .int .i64 i.2.1 :: .int .i64 i.2.2 :: fi l := rfl
theorem fi_length : ∀ l : List (Int × Int × Int), (fi l).length = l.length * 3
  | [] => rfl
  | i :: l => by rw [fi_cons, List.length_cons, List.length_cons, List.length_cons, fi_length l, List.length_cons]; omega
theorem fi_at : ∀ (l : List (Int × Int × Int)) (k : Nat), k < l.length → (fi l)[k * 3]? = some (.int .i64 (l.getD k (0, 0, 0)).1) ∧ (fi l)[k * 3 + 1]? = some (.int .i64 (l.getD k (0, 0, 0)).2.1) ∧ (fi l)[k * 3 + 2]? = some (.int .i64 (l.getD k (0, 0, 0)).2.2)
  | i :: l, 0, _ => ⟨rfl, rfl, rfl⟩
  | i :: l, k + 1, h => by
    have := fi_at l k (by simpa using h)
    rw [fi_cons, show (k + 1) * 3 = k * 3 + 1 + 1 + 1 by omega]
    simpa using this
theorem fi_one (l : List (Int × Int × Int)) : ∀ u ∈ fi l, u.oneCell' = true := by
  intro u hu
  simp only [fi, List.mem_flatMap, List.mem_cons, List.not_mem_nil, or_false] at hu
  obtain ⟨i, _, rfl | rfl | rfl⟩ := hu <;> rfl

def Its (w : World) (ao : Option Addr) (n : Nat) (l : List (Int × Int × Int)) : Prop :=
  l.length = n ∧ (0 < n → ∃ b off, ao = some ⟨b, off, none⟩ ∧ b < w.heap.size ∧ ∀ j u, (fi l)[j]? = some u → w.cell? ⟨b, off + j, none⟩ = some u)

section
variable {w w' : World} {ao : Option Addr} {n k cap : Nat} {l : List (Int × Int × Int)}
theorem Its.zero (w : World) (ao : Option Addr) : Its w ao 0 [] := ⟨rfl, fun h => by omega⟩
theorem Its.keep (h : Its w ao n l) (hb : Below w.heap.size w w') : Its w' ao n l := by
  refine ⟨h.1, fun hp => ?_⟩
  obtain ⟨b, off, e, hl, hc⟩ := h.2 hp
  exact ⟨b, off, e, Nat.lt_of_lt_of_le hl hb.size, fun j u hu => (hb.cell (p := ⟨b, off + j, none⟩) hl).trans (hc j u hu)⟩
theorem Its.src (h : Its w ao n l) : 0 < n → ∃ ad, ao = some ad ∧ ∀ j u, (fi l)[j]? = some u → w.cell? (ad.add j) = some u := fun hp => by
  obtain ⟨b, off, rfl, _, hc⟩ := h.2 hp
  refine ⟨⟨b, off, Option.none⟩, rfl, fun j u hu => ?_⟩
  rw [Addr.add_lit]
  exact hc j u hu
theorem Its.own {base : Nat} {v : Value} (h : w.ownsRow base 93 3 v n (fi l)) : ∃ ao cap, v = .slice ao n cap ∧ Its w ao n l ∧ (∀ a, ao = some a → base ≤ a.block) := by
  have hl : l.length = n := by have := h.1; rw [fi_length] at this; omega
  have hcs := fun g hg => h.cells (g := g) hg
  rcases h.2 with ⟨rfl, rfl⟩ | ⟨g, cap, cur, rfl, hb, hg, hle, _⟩
  · exact ⟨_, _, rfl, ⟨hl, fun hp => by omega⟩, fun _ h => by simp at h⟩
  · refine ⟨_, _, rfl, ⟨hl, fun hp => ⟨g, 0, rfl, lt_of_block hg, fun j u hu => ?_⟩⟩, fun a ha => by injection ha with ha; subst ha; exact hb⟩
    have := hcs g rfl j u hu
    simpa [Addr.add_lit] using this
end

end Go.Proofs.Ytfnjbbokbdddpaa.M2
namespace Go.Proofs.Ytfnjbbokbdddpaa.M2
open Go.RowKit

def TC (w : World) (N p : Nat) (t : Th) (b : Value) (ag : Int) : Prop :=
  w.heap[N]? = some (.cells #[.int .i64 t.ti, .int .i64 t.pc, .int .i64 t.rc, .int .i64 t.sq, .int .i64 t.wo, .int .i64 t.lk, .int .i64 t.cu, .int .i64 t.pv, .int .i64 t.nt, .int .i64 t.mx, .int .i64 t.ps, .int .i64 t.rn, b, .pointer (some ⟨p, 0, none⟩), .int .i64 ag] 90 (0, 0))

section
variable {w w' : World} {N p : Nat} {t : Th} {b : Value} {ag : Int}
theorem TC.lt (h : TC w N p t b ag) : N < w.heap.size := lt_of_block h
theorem TC.f (h : TC w N p t b ag) (j : Nat) : w.frozen? ⟨N, j, none⟩ = false := by unfold TC at h; simp [World.frozen?, h]
theorem TC.c0 (h : TC w N p t b ag) : w.cell? ⟨N, 0, none⟩ = some (.int .i64 t.ti) := by unfold TC at h; simp [World.cell?, h]
theorem TC.c1 (h : TC w N p t b ag) : w.cell? ⟨N, 1, none⟩ = some (.int .i64 t.pc) := by unfold TC at h; simp [World.cell?, h]
theorem TC.c2 (h : TC w N p t b ag) : w.cell? ⟨N, 2, none⟩ = some (.int .i64 t.rc) := by unfold TC at h; simp [World.cell?, h]
theorem TC.c3 (h : TC w N p t b ag) : w.cell? ⟨N, 3, none⟩ = some (.int .i64 t.sq) := by unfold TC at h; simp [World.cell?, h]
theorem TC.c4 (h : TC w N p t b ag) : w.cell? ⟨N, 4, none⟩ = some (.int .i64 t.wo) := by unfold TC at h; simp [World.cell?, h]
theorem TC.c5 (h : TC w N p t b ag) : w.cell? ⟨N, 5, none⟩ = some (.int .i64 t.lk) := by unfold TC at h; simp [World.cell?, h]
theorem TC.c6 (h : TC w N p t b ag) : w.cell? ⟨N, 6, none⟩ = some (.int .i64 t.cu) := by unfold TC at h; simp [World.cell?, h]
theorem TC.c7 (h : TC w N p t b ag) : w.cell? ⟨N, 7, none⟩ = some (.int .i64 t.pv) := by unfold TC at h; simp [World.cell?, h]
theorem TC.c8 (h : TC w N p t b ag) : w.cell? ⟨N, 8, none⟩ = some (.int .i64 t.nt) := by unfold TC at h; simp [World.cell?, h]
theorem TC.c9 (h : TC w N p t b ag) : w.cell? ⟨N, 9, none⟩ = some (.int .i64 t.mx) := by unfold TC at h; simp [World.cell?, h]
theorem TC.c10 (h : TC w N p t b ag) : w.cell? ⟨N, 10, none⟩ = some (.int .i64 t.ps) := by unfold TC at h; simp [World.cell?, h]
theorem TC.c11 (h : TC w N p t b ag) : w.cell? ⟨N, 11, none⟩ = some (.int .i64 t.rn) := by unfold TC at h; simp [World.cell?, h]
theorem TC.c12 (h : TC w N p t b ag) : w.cell? ⟨N, 12, none⟩ = some (b) := by unfold TC at h; simp [World.cell?, h]
theorem TC.c13 (h : TC w N p t b ag) : w.cell? ⟨N, 13, none⟩ = some (.pointer (some ⟨p, 0, none⟩)) := by unfold TC at h; simp [World.cell?, h]
theorem TC.c14 (h : TC w N p t b ag) : w.cell? ⟨N, 14, none⟩ = some (.int .i64 ag) := by unfold TC at h; simp [World.cell?, h]
theorem TC.s1 (h : TC w N p t b ag) (x : Int) : TC (w.setCell ⟨N, 1, none⟩ (.int .i64 x)) N p { t with pc := x } b ag := by unfold TC; rw [heap_setCell_same w N 1 _ _ _ h]; rfl
theorem TC.s5 (h : TC w N p t b ag) (x : Int) : TC (w.setCell ⟨N, 5, none⟩ (.int .i64 x)) N p { t with lk := x } b ag := by unfold TC; rw [heap_setCell_same w N 5 _ _ _ h]; rfl
theorem TC.s6 (h : TC w N p t b ag) (x : Int) : TC (w.setCell ⟨N, 6, none⟩ (.int .i64 x)) N p { t with cu := x } b ag := by unfold TC; rw [heap_setCell_same w N 6 _ _ _ h]; rfl
theorem TC.s7 (h : TC w N p t b ag) (x : Int) : TC (w.setCell ⟨N, 7, none⟩ (.int .i64 x)) N p { t with pv := x } b ag := by unfold TC; rw [heap_setCell_same w N 7 _ _ _ h]; rfl
theorem TC.s12 (h : TC w N p t b ag) (x : Value) : TC (w.setCell ⟨N, 12, none⟩ x) N p t x ag := by unfold TC; rw [heap_setCell_same w N 12 _ _ _ h]; rfl
theorem TC.new (w : World) (p : Nat) (t : Th) (b : Value) (ag : Int) : TC (w.alloc (.cells #[.int .i64 t.ti, .int .i64 t.pc, .int .i64 t.rc, .int .i64 t.sq, .int .i64 t.wo, .int .i64 t.lk, .int .i64 t.cu, .int .i64 t.pv, .int .i64 t.nt, .int .i64 t.mx, .int .i64 t.ps, .int .i64 t.rn, b, .pointer (some ⟨p, 0, none⟩), .int .i64 ag] 90)) w.heap.size p t b ag := heap_alloc_new w _
end

theorem Did.comp {w0 w w' : World} {B p : Nat} {v0 v : Value} {size : Int} {zs : List Int} {st : Int} (h : Wrote p v0 w0 w) (l : Later v0 v w0) (d : Did B p v size zs st w w') : Did B p v0 size zs st w0 w' := by
  obtain ⟨v', m, wr, lt⟩ := d
  refine ⟨v', m, ⟨wr.os.trans h.os, wr.tape.trans h.tape, wr.output.trans h.output, Nat.le_trans h.size wr.size, fun k hk h1 h2 => ?_⟩, fun g hg => ?_⟩
  · refine (wr.block k (Nat.lt_of_lt_of_le hk h.size) h1 (fun e => ?_)).trans (h.block k hk h1 h2)
    rcases l k e with e2 | e2
    · exact h2 e2
    · omega
  · rcases lt g hg with e | e
    · exact l g e
    · exact .inr (Nat.le_trans h.size e)

def BR (M : Nat) (w : World) (b : Value) (l : List It3) : Prop := w.ownsRow M 93 3 b l.length (fi l)

structure CM (w0 : World) (M B p N : Nat) (v0 : Value) (size : Int) (t : Th) (b : Value) (ag : Int) (l : List It3) (zs : List Int) (st : Int) (w : World) : Prop where
  box : TC w N p t b ag
  did : Did B p v0 size zs st w0 w
  far : w0.heap.size ≤ N
  row : BR M w b l
  rowM : M ≤ w.heap.size

section
variable {w0 w w' : World} {M B p N : Nat} {v0 : Value} {size : Int} {t : Th} {b : Value} {ag : Int} {l : List It3} {zs zs' : List Int} {st st' : Int}
theorem BR.keep (h : BR M w b l) (hb : ∀ g, b.ownBlock = some g → w'.heap[g]? = w.heap[g]?) : BR M w' b l := _root_.Go.Proofs.Ytfnjbbokbdddpaa.own_keep h hb
theorem BR.block (h : BR M w b l) {g : Nat} (hg : b.ownBlock = some g) : ∃ cs, w.heap[g]? = some (.cells cs 93 (0, 0)) := by
  rcases h.2 with ⟨rfl, _⟩ | ⟨g', cap, cur, rfl, _, hc, _⟩
  · simp [Value.ownBlock] at hg
  · simp only [Value.ownBlock, Option.some.injEq] at hg
    subst hg
    exact ⟨_, hc⟩
theorem BR.kept (h : BR M w b l) (k : Kept w w') : BR M w' b l := h.keep fun g hg => by
  obtain ⟨cs, hc⟩ := h.block hg
  exact (k _ _ _ hc (by decide) (by decide)).trans hc.symm
theorem BR.below (h : BR M w b l) (hb : Below w.heap.size w w') : BR M w' b l := h.keep fun g hg => by
  obtain ⟨cs, hc⟩ := h.block hg
  exact hb.block g (lt_of_block hc)
theorem BR.nil (M : Nat) (w : World) : BR M w (.slice none 0 0) [] := World.ownsRow_nil w M _ 3
theorem CM.next (h : CM w0 M B p N v0 size t b ag l zs st w) {u : Value} (m : Mem w B p u size zs st) (wr : Wrote p v0 w0 w) (lt : Later v0 u w0) (x : Did B p u size zs' st' w w') : CM w0 M B p N v0 size t b ag l zs' st' w' :=
  ⟨x.kept m _ _ _ h.box (by decide) (by decide), x.comp wr lt, h.far, h.row.kept (x.kept m), by obtain ⟨_, _, y, _⟩ := x; exact Nat.le_trans h.rowM y.size⟩
theorem CM.call {f : FuncId} {args : Array Value} {R : Ending → Prop} (h : CM w0 M B p N v0 size t b ag l zs st w) (C : ∀ u, Mem w B p u size zs st → Calls Try.prog f args w fun e w' => R e ∧ Did B p u size zs' st' w w') :
    Calls Try.prog f args w fun e w' => R e ∧ CM w0 M B p N v0 size t b ag l zs' st' w' := by
  obtain ⟨u, m, wr, lt⟩ := h.did
  exact (C u m).mono fun e w' ⟨he, x⟩ => ⟨he, h.next m wr lt x⟩
theorem CM.put (h : CM w0 M B p N v0 size t b ag l zs st w) {j : Nat} {x : Value} {t' : Th} {b' : Value} {l' : List It3} (hb : TC (w.setCell ⟨N, j, none⟩ x) N p t' b' ag) (hr : BR M w b' l') : CM w0 M B p N v0 size t' b' ag l' zs st (w.setCell ⟨N, j, none⟩ x) := by
  obtain ⟨u, m, wr, lt⟩ := h.did
  refine ⟨hb, ⟨u, m.setOther (q := ⟨N, j, none⟩) ?_ ?_ _, wr.setCell (q := ⟨N, j, none⟩) (.inl h.far) _, lt⟩, h.far, hr.keep fun g hg => Below.heap_setCell _ _ _ _ ?_, by simpa [World.setCell] using h.rowM⟩
  · rintro e
    have e : N = p := e
    subst e
    have e1 := m.block
    have e2 := h.box
    unfold TC at e2
    rw [e2] at e1
    simp at e1
  · intro e
    have e : u.ownBlock = some N := e
    rcases m.own.2 with ⟨rfl, _⟩ | ⟨g, cap, cur, rfl, _, hg, _⟩
    · simp [Value.ownBlock] at e
    · simp only [Value.ownBlock, Option.some.injEq] at e
      subst e
      have e2 := h.box
      unfold TC at e2
      rw [e2] at hg
      simp at hg
  · rintro e
    have e : g = N := e
    subst e
    obtain ⟨cs, hc⟩ := hr.block hg
    have e2 := h.box
    unfold TC at e2
    rw [e2] at hc
    simp at hc
theorem CM.drew (h : CM w0 M B p N v0 size t b ag l zs st w) : CM w0 M B p N v0 size t b ag l zs st w.drew := by
  obtain ⟨u, m, wr, lt⟩ := h.did
  exact ⟨h.box, ⟨u, m.drew, wr.drew, lt⟩, h.far, h.row, h.rowM⟩
theorem CM.fresh (h : CM w0 M B p N v0 size t b ag l zs st w) (hb : Below w.heap.size w w') : CM w0 M B p N v0 size t b ag l zs st w' := by
  obtain ⟨u, m, wr, lt⟩ := h.did
  exact ⟨(hb.block N h.box.lt).trans h.box, Did.comp wr lt ⟨u, m.fresh hb, ⟨hb.os, hb.tape, hb.output, hb.size, fun k hk _ _ => hb.block k hk⟩, Later.refl _ _⟩, h.far, h.row.below hb, Nat.le_trans h.rowM hb.size⟩
theorem CM.s1 (h : CM w0 M B p N v0 size t b ag l zs st w) (x : Int) : CM w0 M B p N v0 size { t with pc := x } b ag l zs st (w.setCell ⟨N, 1, none⟩ (.int .i64 x)) := h.put (h.box.s1 x) h.row
theorem CM.s5 (h : CM w0 M B p N v0 size t b ag l zs st w) (x : Int) : CM w0 M B p N v0 size { t with lk := x } b ag l zs st (w.setCell ⟨N, 5, none⟩ (.int .i64 x)) := h.put (h.box.s5 x) h.row
theorem CM.s6 (h : CM w0 M B p N v0 size t b ag l zs st w) (x : Int) : CM w0 M B p N v0 size { t with cu := x } b ag l zs st (w.setCell ⟨N, 6, none⟩ (.int .i64 x)) := h.put (h.box.s6 x) h.row
theorem CM.s7 (h : CM w0 M B p N v0 size t b ag l zs st w) (x : Int) : CM w0 M B p N v0 size { t with pv := x } b ag l zs st (w.setCell ⟨N, 7, none⟩ (.int .i64 x)) := h.put (h.box.s7 x) h.row
theorem CM.load (h : CM w0 M B p N v0 size t b ag l zs st w) (a : Int) (k0 : 0 ≤ st) (k1 : st < 1000000) :
    Calls Try.prog 27 #[.pointer (some ⟨p, 0, none⟩), .int .i64 a] w fun e w' => e = .returned (.tuple #[.int .i64 (ld zs a), .int .u16 (ce zs a)]) ∧ CM w0 M B p N v0 size t b ag l zs (st + cn zs a) w' :=
  h.call fun _ m => loadD m a k0 k1
theorem CM.store (h : CM w0 M B p N v0 size t b ag l zs st w) (a x : Int) (k0 : 0 ≤ st) (k1 : st < 1000000) :
    Calls Try.prog 36 #[.pointer (some ⟨p, 0, none⟩), .int .i64 a, .int .i64 x] w fun e w' => e = .returned (.int .u16 (ce zs a)) ∧ CM w0 M B p N v0 size t b ag l (sto zs a x) (st + cn zs a) w' :=
  h.call fun _ m => storeD m a x k0 k1
theorem CM.swap (h : CM w0 M B p N v0 size t b ag l zs st w) (a q x : Int) (k0 : 0 ≤ st) (k1 : st < 1000000) :
    Calls Try.prog 25 #[.pointer (some ⟨p, 0, none⟩), .int .i64 a, .int .i64 q, .int .i64 x] w fun e w' => e = .returned (.tuple #[.bool (swb zs a q), .int .u16 (ce zs a)]) ∧ CM w0 M B p N v0 size t b ag l (swp zs a q x) (st + cn zs a) w' :=
  h.call fun _ m => swapD m a q x k0 k1
end

end Go.Proofs.Ytfnjbbokbdddpaa.M2
namespace Go.Proofs.Ytfnjbbokbdddpaa.M2
open Go.RowKit

section
variable {w0 w : World} {M B p N : Nat} {v0 : Value} {size : Int} {t : Th} {b : Value} {ag : Int} {l : List It3} {zs : List Int} {st : Int}

set_option maxRecDepth 100000 in
theorem loadT (h : CM w0 M B p N v0 size t b ag l zs st w) (a : Int) (k0 : 0 ≤ st) (k1 : st < 1000000) : Calls Try.prog 66 #[.pointer (some ⟨N, 0, none⟩), .int .i64 a] w fun e w' => e = .returned (.int .i64 (ld zs a)) ∧ CM w0 M B p N v0 size { t with lk := ld zs a } b ag l zs (st + cn zs a) w' := by
  have C := h.load a k0 k1
  have c13 := h.box.c13
  clear h
  go_enter Try.func66, Try.ntmps66
  go_wp2_with fail
  refine C.mono ?_
  clear C c13
  rintro e w1 ⟨rfl, h1⟩
  have c5 := h1.box.c5
  have cf := h1.box.f
  have H2 := Lib.hid (h1.s5 (ld zs a))
  have e5 := H2.out.box.c5
  clear h1
  go_wp2
  go_ret
  exact ⟨rfl, H2.out⟩

set_option maxRecDepth 100000 in
theorem storeT (h : CM w0 M B p N v0 size t b ag l zs st w) (a x : Int) (k0 : 0 ≤ st) (k1 : st < 1000000) : Calls Try.prog 67 #[.pointer (some ⟨N, 0, none⟩), .int .i64 a, .int .i64 x] w fun e w' => e = .returned (.tuple #[]) ∧ CM w0 M B p N v0 size t b ag l (sto zs a x) (st + cn zs a) w' := by
  have C := h.store a x k0 k1
  have c13 := h.box.c13
  clear h
  go_enter Try.func67, Try.ntmps67
  go_wp2_with fail
  refine C.mono ?_
  clear C c13
  rintro e w1 ⟨rfl, h1⟩
  have H1 := Lib.hid h1
  clear h1
  go_wp2
  go_end0
  exact ⟨rfl, H1.out⟩

set_option maxRecDepth 100000 in
theorem endsY (h : CM w0 M B p N v0 size t b ag l zs st w) (c : Int) (hc : t.pc ≠ c) : Calls Try.prog 61 #[.pointer (some ⟨N, 0, none⟩), .int .i64 c] w fun e w' => e = .returned (.bool true) ∧ CM w0 M B p N v0 size { t with pc := c } b ag l zs st w' := by
  have c1 := h.box.c1
  have cf := h.box.f
  have H1 := Lib.hid (h.s1 c)
  have d1 := H1.out.box.c1
  obtain ⟨y, hy⟩ : ∃ y, t.pc = y := ⟨_, rfl⟩
  rw [hy] at c1 hc
  clear h hy
  go_enter Try.func61, Try.ntmps61
  go_wp2
  go_ret
  exact ⟨by simpa using hc, H1.out⟩

set_option maxRecDepth 100000 in
theorem endsN (h : CM w0 M B p N v0 size t b ag l zs st w) (c : Int) (hc : t.pc = c) : Calls Try.prog 61 #[.pointer (some ⟨N, 0, none⟩), .int .i64 c] w fun e w' => e = .returned (.bool false) ∧ CM w0 M B p N v0 size t b ag l zs st w' := by
  have ht : ({ t with pc := c } : Th) = t := by subst hc; rfl
  have HT := Lib.hid ht
  clear ht
  have c1 := h.box.c1
  have cf := h.box.f
  have H1 := Lib.hid (h.s1 c)
  have d1 := H1.out.box.c1
  obtain ⟨y, hy⟩ : ∃ y, t.pc = y := ⟨_, rfl⟩
  rw [hy] at c1 hc
  subst hc
  clear h hy
  go_enter Try.func61, Try.ntmps61
  go_wp2
  go_ret
  exact ⟨by simp, by have := H1.out; rw [HT.out] at this; exact this⟩

set_option maxRecDepth 100000 in
theorem followP0 (h : CM w0 M B p N v0 size t b ag l zs st w) (a : Int) (hz : ld zs a = 0) (k0 : 0 ≤ st) (k1 : st < 1000000) : Calls Try.prog 60 #[.pointer (some ⟨N, 0, none⟩), .int .i64 a, .pointer (some ⟨N, 7, none⟩)] w fun e w' => e = .returned (.bool false) ∧ CM w0 M B p N v0 size { t with lk := 0, pc := 48 } b ag l zs (st + cn zs a) w' := by
  have C := loadT h a k0 k1
  rw [hz] at C
  clear h hz
  go_enter Try.func60, Try.ntmps60
  go_wp2_with fail
  refine C.mono ?_
  clear C
  rintro e w1 ⟨rfl, h1⟩
  have c1 := h1.box.c1
  have cf := h1.box.f
  have H2 := Lib.hid (h1.s1 48)
  clear h1
  go_wp2
  go_ret
  exact ⟨rfl, H2.out⟩

set_option maxRecDepth 100000 in
theorem followP (h : CM w0 M B p N v0 size t b ag l zs st w) (a : Int) (hz : ld zs a ≠ 0) (k0 : 0 ≤ st) (k1 : st < 1000000) : Calls Try.prog 60 #[.pointer (some ⟨N, 0, none⟩), .int .i64 a, .pointer (some ⟨N, 7, none⟩)] w fun e w' => e = .returned (.bool true) ∧ CM w0 M B p N v0 size { t with lk := ld zs a, pv := ld zs a } b ag l zs (st + cn zs a) w' := by
  have C := loadT h a k0 k1
  obtain ⟨y, hy⟩ : ∃ y, ld zs a = y := ⟨_, rfl⟩
  rw [hy] at C hz ⊢
  have z1 : (y == 0) = false := by simpa using hz
  clear h hy
  go_enter Try.func60, Try.ntmps60
  go_wp2_with fail
  refine C.mono ?_
  clear C
  rintro e w1 ⟨rfl, h1⟩
  have c5 := h1.box.c5
  have cj := h1.box.c7
  have cf := h1.box.f
  have H2 := Lib.hid (h1.s7 y)
  clear h1
  go_wp2
  go_ret
  exact ⟨rfl, H2.out⟩

set_option maxRecDepth 100000 in
theorem followC0 (h : CM w0 M B p N v0 size t b ag l zs st w) (a : Int) (hz : ld zs a = 0) (k0 : 0 ≤ st) (k1 : st < 1000000) : Calls Try.prog 60 #[.pointer (some ⟨N, 0, none⟩), .int .i64 a, .pointer (some ⟨N, 6, none⟩)] w fun e w' => e = .returned (.bool false) ∧ CM w0 M B p N v0 size { t with lk := 0, pc := 48 } b ag l zs (st + cn zs a) w' := by
  have C := loadT h a k0 k1
  rw [hz] at C
  clear h hz
  go_enter Try.func60, Try.ntmps60
  go_wp2_with fail
  refine C.mono ?_
  clear C
  rintro e w1 ⟨rfl, h1⟩
  have c1 := h1.box.c1
  have cf := h1.box.f
  have H2 := Lib.hid (h1.s1 48)
  clear h1
  go_wp2
  go_ret
  exact ⟨rfl, H2.out⟩

set_option maxRecDepth 100000 in
theorem followC (h : CM w0 M B p N v0 size t b ag l zs st w) (a : Int) (hz : ld zs a ≠ 0) (k0 : 0 ≤ st) (k1 : st < 1000000) : Calls Try.prog 60 #[.pointer (some ⟨N, 0, none⟩), .int .i64 a, .pointer (some ⟨N, 6, none⟩)] w fun e w' => e = .returned (.bool true) ∧ CM w0 M B p N v0 size { t with lk := ld zs a, cu := ld zs a } b ag l zs (st + cn zs a) w' := by
  have C := loadT h a k0 k1
  obtain ⟨y, hy⟩ : ∃ y, ld zs a = y := ⟨_, rfl⟩
  rw [hy] at C hz ⊢
  have z1 : (y == 0) = false := by simpa using hz
  clear h hy
  go_enter Try.func60, Try.ntmps60
  go_wp2_with fail
  refine C.mono ?_
  clear C
  rintro e w1 ⟨rfl, h1⟩
  have c5 := h1.box.c5
  have cj := h1.box.c6
  have cf := h1.box.f
  have H2 := Lib.hid (h1.s6 y)
  clear h1
  go_wp2
  go_ret
  exact ⟨rfl, H2.out⟩

set_option maxRecDepth 100000 in
theorem takesY (h : CM w0 M B p N v0 size t b ag l zs st w) : Calls Try.prog 62 #[.pointer (some ⟨N, 0, none⟩), .bool true] w fun e w' => e = .returned (.bool true) ∧ CM w0 M B p N v0 size t b ag l zs st w' := by
  have H1 := Lib.hid h
  clear h
  go_enter Try.func62, Try.ntmps62
  go_wp2
  go_ret
  exact ⟨rfl, H1.out⟩

set_option maxRecDepth 100000 in
theorem takesN (h : CM w0 M B p N v0 size t b ag l zs st w) : Calls Try.prog 62 #[.pointer (some ⟨N, 0, none⟩), .bool false] w fun e w' => e = .returned (.bool false) ∧ CM w0 M B p N v0 size (byT t) b ag l zs st w' := by
  have c6 := h.box.c6
  have c7 := h.box.c7
  have cf := h.box.f
  have H1 := h.s7 t.cu
  have c1 := H1.box.c1
  have df := H1.box.f
  have H2 := Lib.hid (H1.s1 41)
  clear h H1
  go_enter Try.func62, Try.ntmps62
  go_wp2
  go_ret
  exact ⟨rfl, H2.out⟩

set_option maxRecDepth 100000 in
theorem liveT (h : CM w0 M B p N v0 size t b ag l zs st w) (k0 : 0 ≤ st) (k1 : st < 1000000) : Calls Try.prog 63 #[.pointer (some ⟨N, 0, none⟩)] w fun e w' => e = .returned (.bool (ld zs (ad t.cu 1) == 1)) ∧ CM w0 M B p N v0 size { t with lk := ld zs (ad t.cu 1) } b ag l zs (st + cn zs (ad t.cu 1)) w' := by
  have C := loadT h (ad t.cu 1) k0 k1
  have c6 := h.box.c6
  have cf := h.box.f
  rw [show ad t.cu 1 = wrap64 (t.cu + 1) from rfl] at C ⊢
  clear h
  go_enter Try.func63, Try.ntmps63
  go_wp2_with fail
  refine C.mono ?_
  clear C c6 cf
  rintro e w1 ⟨rfl, h1⟩
  have H1 := Lib.hid h1
  clear h1
  go_wp2
  go_ret
  exact ⟨rfl, H1.out⟩

set_option maxRecDepth 100000 in
theorem oldT (h : CM w0 M B p N v0 size t b ag l zs st w) (k0 : 0 ≤ st) (k1 : st < 1000000) : Calls Try.prog 64 #[.pointer (some ⟨N, 0, none⟩)] w fun e w' => e = .returned (.bool (decide (ag < wrap64 (t.ps - ld zs (ad t.cu 2))))) ∧ CM w0 M B p N v0 size { t with lk := ld zs (ad t.cu 2) } b ag l zs (st + cn zs (ad t.cu 2)) w' := by
  have hd := h.drew
  have C := loadT hd (IntKind.i64.wrap (t.cu + 2)) k0 k1
  rw [show ld zs (IntKind.i64.wrap (t.cu + 2)) = ld zs (ad t.cu 2) by rw [IntWalk.i64_left]; rfl, show cn zs (IntKind.i64.wrap (t.cu + 2)) = cn zs (ad t.cu 2) by rw [IntWalk.i64_left]; rfl] at C
  have i0 : (fun w' : World => w'.cell? ⟨N, 10, none⟩ = some (.int .i64 t.ps) ∧ w'.cell? ⟨N, 6, none⟩ = some (.int .i64 t.cu) ∧ w'.cell? ⟨N, 14, none⟩ = some (.int .i64 ag)) w := ⟨h.box.c10, h.box.c6, h.box.c14⟩
  have i2 : (fun w' : World => w'.cell? ⟨N, 10, none⟩ = some (.int .i64 t.ps) ∧ w'.cell? ⟨N, 6, none⟩ = some (.int .i64 t.cu) ∧ w'.cell? ⟨N, 14, none⟩ = some (.int .i64 ag)) w.drew := ⟨hd.box.c10, hd.box.c6, hd.box.c14⟩
  have cf := h.box.f
  clear h hd
  go_enter Try.func64, Try.ntmps64
  go_wp2
  go_region_held3 (fun w' : World => w'.cell? ⟨N, 10, none⟩ = some (.int .i64 t.ps) ∧ w'.cell? ⟨N, 6, none⟩ = some (.int .i64 t.cu) ∧ w'.cell? ⟨N, 14, none⟩ = some (.int .i64 ag)) (first | with_reducible exact i0 | with_reducible exact i1 | with_reducible exact i2) (first
    | ((with_reducible refine C.mono ?_); rintro e w1 ⟨rfl, h1⟩; have i1 : (fun w' : World => w'.cell? ⟨N, 10, none⟩ = some (.int .i64 t.ps) ∧ w'.cell? ⟨N, 6, none⟩ = some (.int .i64 t.cu) ∧ w'.cell? ⟨N, 14, none⟩ = some (.int .i64 ag)) _ := ⟨h1.box.c10, h1.box.c6, h1.box.c14⟩; have H2 := Lib.hid h1; clear h1))
  all_goals (go_wp2; go_ret; exact ⟨by rw [← IntWalk.i64_left]; rfl, H2.out⟩)

set_option maxRecDepth 100000 in
theorem closesT (h : CM w0 M B p N v0 size t b ag l zs st w) (k0 : 0 ≤ st) (k1 : st < 1000000) : Calls Try.prog 65 #[.pointer (some ⟨N, 0, none⟩)] w fun e w' => e = .returned (.bool (swb zs (ad t.cu 0) 0)) ∧ CM w0 M B p N v0 size t b ag l (swp zs (ad t.cu 0) 0 (-1)) (st + cn zs (ad t.cu 0)) w' := by
  have hd := h.drew
  have C := hd.swap (IntKind.i64.wrap t.cu) 0 (-1) k0 k1
  rw [show ad t.cu 0 = IntKind.i64.wrap t.cu by rw [IntWalk.i64_left]; unfold ad; rw [Int.add_zero]] at ⊢
  have i0 : (fun w' : World => w'.cell? ⟨N, 13, none⟩ = some (.pointer (some ⟨p, 0, none⟩)) ∧ w'.cell? ⟨N, 6, none⟩ = some (.int .i64 t.cu)) w := ⟨h.box.c13, h.box.c6⟩
  have i2 : (fun w' : World => w'.cell? ⟨N, 13, none⟩ = some (.pointer (some ⟨p, 0, none⟩)) ∧ w'.cell? ⟨N, 6, none⟩ = some (.int .i64 t.cu)) w.drew := ⟨hd.box.c13, hd.box.c6⟩
  have cf := h.box.f
  clear h hd
  go_enter Try.func65, Try.ntmps65
  go_wp2
  go_region_held3 (fun w' : World => w'.cell? ⟨N, 13, none⟩ = some (.pointer (some ⟨p, 0, none⟩)) ∧ w'.cell? ⟨N, 6, none⟩ = some (.int .i64 t.cu)) (first | with_reducible exact i0 | with_reducible exact i1 | with_reducible exact i2) (first
    | ((with_reducible refine C.mono ?_); rintro e w1 ⟨rfl, h1⟩; have i1 : (fun w' : World => w'.cell? ⟨N, 13, none⟩ = some (.pointer (some ⟨p, 0, none⟩)) ∧ w'.cell? ⟨N, 6, none⟩ = some (.int .i64 t.cu)) _ := ⟨h1.box.c13, h1.box.c6⟩; have H2 := Lib.hid h1; clear h1))
  all_goals (go_wp2; go_ret; exact ⟨rfl, H2.out⟩)
end

end Go.Proofs.Ytfnjbbokbdddpaa.M2
namespace Go.Proofs.Ytfnjbbokbdddpaa.M2
open Go.RowKit

section
variable {w0 w : World} {M B p N : Nat} {v0 : Value} {size : Int} {t : Th} {b : Value} {ag : Int} {l : List It3} {zs : List Int} {st : Int}

set_option maxRecDepth 100000 in
set_option maxHeartbeats 1600000 in
theorem actP40 (h : CM w0 M B p N v0 size t b ag l zs st w) (hp : t.pc = 40) (k0 : 0 ≤ st) (k1 : st < 1000000) : Calls Try.prog 45 #[.pointer (some ⟨N, 0, none⟩)] w fun e w' => e = .returned (.tuple #[]) ∧ CM w0 M B p N v0 size (swt ag t zs).t b ag l (swt ag t zs).zs (st + (swt ag t zs).c) w' := by
  rw [swt40 ag t zs hp]
  dsimp only
  have c1 := h.box.c1
  rw [hp] at c1
  by_cases hz : ld zs 1 = 0
  · rw [if_pos hz]
    have C := followP0 h 1 hz k0 k1
    clear h hp hz
    go_enter Try.func45, Try.ntmps45
    go_wp2_with fail
    with_reducible refine C.mono ?_
    rintro e wh2 ⟨rfl, h2⟩
    clear C c1
    have H9 := Lib.hid h2
    clear h2
    go_wp2
    first | go_end0 | refine bodyPost_ret (results_none rfl _ _ _) rfl ?_
    exact ⟨rfl, H9.out⟩
  · rw [if_neg hz]
    have C := followP h 1 hz k0 k1
    have HP := Lib.hid hp
    clear h hp hz
    go_enter Try.func45, Try.ntmps45
    go_wp2_with fail
    with_reducible refine C.mono ?_
    rintro e wh2 ⟨rfl, h2⟩
    clear C c1
    have hd := h2.drew
    have E := endsY hd 41 (show t.pc ≠ 41 by rw [HP.out]; decide)
    clear h2 hd
    go_wp2
    refine wp_region_noPanic ?_
    refine wp_region_held_drew (S := fun _ => True) (by kernel_rfl) trivial (fun _ => ?_)
    refine wpAnyH_take (i := 0) (v := ?_) rfl (by kernel_rfl) (by kernel_rfl) (by kernel_rfl) (fun _ _ _ h => h) (Or.inl ⟨by rfl, ?_⟩) trivial ?_
    rotate_left
    · intro w hSw
      go_simp
      try with_reducible rfl
    try simp only [List.getElem_toArray, List.getElem_cons_zero, Act.put, List.setIfInBounds_toArray, List.set_cons_zero, List.set_cons_succ]
    refine wpAnyH_ready (rs := [1]) (by kernel_rfl) (by simp) ?_
    refine AllReadyH.cons rfl (fun K hK => ?_) AllReadyH.nil
    go_simp
    with_reducible refine E.mono ?_
    rintro e w9 ⟨rfl, h9⟩
    have H9 := Lib.hid h9
    clear h9
    try go_wp2_with fail
    refine hK.out _ _ trivial (fun _ => ?_)
    clear hK K
    try simp only [List.getElem_toArray, List.getElem_cons_succ, List.getElem_cons_zero, Act.put, List.setIfInBounds_toArray, List.set_cons_zero, List.set_cons_succ]
    refine wpAnyH_take (i := 2) (v := ?_) rfl (by kernel_rfl) (by kernel_rfl) (by kernel_rfl) (fun _ _ _ h => h) (Or.inl ⟨by rfl, ?_⟩) trivial ?_
    rotate_left
    · intro w hSw
      go_simp
      try with_reducible rfl
    try simp only [List.getElem_toArray, List.getElem_cons_succ, List.getElem_cons_zero, Act.put, List.setIfInBounds_toArray, List.set_cons_zero, List.set_cons_succ]
    refine wpAnyH_take (i := 3) (v := undef) rfl (by kernel_rfl) (by kernel_rfl) (by kernel_rfl) (fun _ _ _ h => h) (Or.inr ⟨by rfl, rfl⟩) trivial ?_
    try simp only [List.getElem_toArray, List.getElem_cons_succ, List.getElem_cons_zero, Act.put, List.setIfInBounds_toArray, List.set_cons_zero, List.set_cons_succ]
    refine wpAnyH_take (i := 4) (v := undef) rfl (by kernel_rfl) (by kernel_rfl) (by kernel_rfl) (fun _ _ _ h => h) (Or.inr ⟨by rfl, rfl⟩) trivial ?_
    try simp only [List.getElem_toArray, List.getElem_cons_succ, List.getElem_cons_zero, Act.put, List.setIfInBounds_toArray, List.set_cons_zero, List.set_cons_succ]
    refine wpAnyH_take (i := 5) (v := undef) rfl (by kernel_rfl) (by kernel_rfl) (by kernel_rfl) (fun _ _ _ h => h) (Or.inr ⟨by rfl, rfl⟩) trivial ?_
    try simp only [List.getElem_toArray, List.getElem_cons_succ, List.getElem_cons_zero, Act.put, List.setIfInBounds_toArray, List.set_cons_zero, List.set_cons_succ]
    refine wpAnyH_take (i := 6) (v := undef) rfl (by kernel_rfl) (by kernel_rfl) (by kernel_rfl) (fun _ _ _ h => h) (Or.inr ⟨by rfl, rfl⟩) trivial ?_
    try simp only [List.getElem_toArray, List.getElem_cons_succ, List.getElem_cons_zero, Act.put, List.setIfInBounds_toArray, List.set_cons_zero, List.set_cons_succ]
    refine wpAnyH_take (i := 7) (v := undef) rfl (by kernel_rfl) (by kernel_rfl) (by kernel_rfl) (fun _ _ _ h => h) (Or.inr ⟨by rfl, rfl⟩) trivial ?_
    try simp only [List.getElem_toArray, List.getElem_cons_succ, List.getElem_cons_zero, Act.put, List.setIfInBounds_toArray, List.set_cons_zero, List.set_cons_succ]
    refine wpAnyH_take (i := 8) (v := undef) rfl (by kernel_rfl) (by kernel_rfl) (by kernel_rfl) (fun _ _ _ h => h) (Or.inr ⟨by rfl, rfl⟩) trivial ?_
    try simp only [List.getElem_toArray, List.getElem_cons_succ, List.getElem_cons_zero, Act.put, List.setIfInBounds_toArray, List.set_cons_zero, List.set_cons_succ]
    refine wpAnyH_take (i := 9) (v := undef) rfl (by kernel_rfl) (by kernel_rfl) (by kernel_rfl) (fun _ _ _ h => h) (Or.inr ⟨by rfl, rfl⟩) trivial ?_
    try simp only [List.getElem_toArray, List.getElem_cons_succ, List.getElem_cons_zero, Act.put, List.setIfInBounds_toArray, List.set_cons_zero, List.set_cons_succ]
    refine wpAnyH_take (i := 10) (v := undef) rfl (by kernel_rfl) (by kernel_rfl) (by kernel_rfl) (fun _ _ _ h => h) (Or.inr ⟨by rfl, rfl⟩) trivial ?_
    try simp only [List.getElem_toArray, List.getElem_cons_succ, List.getElem_cons_zero, Act.put, List.setIfInBounds_toArray, List.set_cons_zero, List.set_cons_succ]
    refine wpAnyH_take (i := 11) (v := undef) rfl (by kernel_rfl) (by kernel_rfl) (by kernel_rfl) (fun _ _ _ h => h) (Or.inr ⟨by rfl, rfl⟩) trivial ?_
    try simp only [List.getElem_toArray, List.getElem_cons_succ, List.getElem_cons_zero, Act.put, List.setIfInBounds_toArray, List.set_cons_zero, List.set_cons_succ]
    refine wpAnyH_take (i := 12) (v := undef) rfl (by kernel_rfl) (by kernel_rfl) (by kernel_rfl) (fun _ _ _ h => h) (Or.inr ⟨by rfl, rfl⟩) trivial ?_
    try simp only [List.getElem_toArray, List.getElem_cons_succ, List.getElem_cons_zero, Act.put, List.setIfInBounds_toArray, List.set_cons_zero, List.set_cons_succ]
    refine wpAnyH_take (i := 13) (v := undef) rfl (by kernel_rfl) (by kernel_rfl) (by kernel_rfl) (fun _ _ _ h => h) (Or.inr ⟨by rfl, rfl⟩) trivial ?_
    try simp only [List.getElem_toArray, List.getElem_cons_succ, List.getElem_cons_zero, Act.put, List.setIfInBounds_toArray, List.set_cons_zero, List.set_cons_succ]
    refine wpAnyH_take (i := 14) (v := undef) rfl (by kernel_rfl) (by kernel_rfl) (by kernel_rfl) (fun _ _ _ h => h) (Or.inr ⟨by rfl, rfl⟩) trivial ?_
    try simp only [List.getElem_toArray, List.getElem_cons_succ, List.getElem_cons_zero, Act.put, List.setIfInBounds_toArray, List.set_cons_zero, List.set_cons_succ]
    refine wpAnyH_take (i := 15) (v := undef) rfl (by kernel_rfl) (by kernel_rfl) (by kernel_rfl) (fun _ _ _ h => h) (Or.inr ⟨by rfl, rfl⟩) trivial ?_
    try simp only [List.getElem_toArray, List.getElem_cons_succ, List.getElem_cons_zero, Act.put, List.setIfInBounds_toArray, List.set_cons_zero, List.set_cons_succ]
    refine wpAnyH_take (i := 16) (v := ?_) rfl (by kernel_rfl) (by kernel_rfl) (by kernel_rfl) (fun _ _ _ h => h) (Or.inl ⟨by rfl, ?_⟩) trivial ?_
    rotate_left
    · intro w hSw
      go_simp
      try with_reducible rfl
    try simp only [List.getElem_toArray, List.getElem_cons_succ, List.getElem_cons_zero, Act.put, List.setIfInBounds_toArray, List.set_cons_zero, List.set_cons_succ]
    refine wpAnyH_done (by kernel_rfl) ?_ _
    refine NoPanic.normal ?_
    go_wp2
    first | go_end0 | refine bodyPost_ret (results_none rfl _ _ _) rfl ?_
    exact ⟨rfl, H9.out⟩

set_option maxRecDepth 100000 in
set_option maxHeartbeats 1600000 in
theorem actP41 (h : CM w0 M B p N v0 size t b ag l zs st w) (hp : t.pc = 41) (k0 : 0 ≤ st) (k1 : st < 1000000) : Calls Try.prog 45 #[.pointer (some ⟨N, 0, none⟩)] w fun e w' => e = .returned (.tuple #[]) ∧ CM w0 M B p N v0 size (swt ag t zs).t b ag l (swt ag t zs).zs (st + (swt ag t zs).c) w' := by
  rw [swt41 ag t zs hp]
  dsimp only
  have c1 := h.box.c1
  rw [hp] at c1
  have hd := h.drew
  have i0 := show (fun w' : World => w'.cell? ⟨N, 7, none⟩ = some (.int .i64 t.pv)) _ from hd.box.c7
  have E := endsN hd 41 hp
  have HP := Lib.hid hp
  by_cases hz : ld zs (ad t.pv 3) = 0
  · rw [if_pos hz]
    have F := fun w (h : CM w0 M B p N v0 size t b ag l zs st w) => followC0 h (IntKind.i64.wrap (t.pv + 3)) (by rw [IntWalk.i64_left]; exact hz) k0 k1
    clear h hp hd hz
    go_enter Try.func45, Try.ntmps45
    go_wp2
    go_region_held3 (fun w' : World => w'.cell? ⟨N, 7, none⟩ = some (.int .i64 t.pv)) (first | with_reducible exact i0 | with_reducible exact i1 | with_reducible exact i2) (first
      | ((with_reducible refine E.mono ?_); rintro e w1 ⟨rfl, h1⟩; have i1 := show (fun w' : World => w'.cell? ⟨N, 7, none⟩ = some (.int .i64 t.pv)) _ from h1.box.c7; have H1 := Lib.hid h1; clear h1)
      | ((with_reducible refine (F _ H1.out).mono ?_); rintro e w2 ⟨rfl, h2⟩; rw [IntWalk.i64_left] at h2; have i2 := show (fun w' : World => w'.cell? ⟨N, 7, none⟩ = some (.int .i64 t.pv)) _ from h2.box.c7; have H2 := Lib.hid h2; clear h2))
    all_goals (go_wp2; first | go_end0 | refine bodyPost_ret (results_none rfl _ _ _) rfl ?_)
    all_goals exact ⟨rfl, H2.out⟩
  · rw [if_neg hz]
    have F := fun w (h : CM w0 M B p N v0 size t b ag l zs st w) => followC h (IntKind.i64.wrap (t.pv + 3)) (by rw [IntWalk.i64_left]; exact hz) k0 k1
    clear h hp hd hz
    go_enter Try.func45, Try.ntmps45
    go_wp2
    go_region_held3 (fun w' : World => w'.cell? ⟨N, 7, none⟩ = some (.int .i64 t.pv)) (first | with_reducible exact i0 | with_reducible exact i1 | with_reducible exact i2) (first
      | ((with_reducible refine E.mono ?_); rintro e w1 ⟨rfl, h1⟩; have i1 := show (fun w' : World => w'.cell? ⟨N, 7, none⟩ = some (.int .i64 t.pv)) _ from h1.box.c7; have H1 := Lib.hid h1; clear h1)
      | ((with_reducible refine (F _ H1.out).mono ?_); rintro e w2 ⟨rfl, h2⟩; rw [IntWalk.i64_left] at h2; have i2 := show (fun w' : World => w'.cell? ⟨N, 7, none⟩ = some (.int .i64 t.pv)) _ from h2.box.c7; have H2 := Lib.hid h2; clear h2))
    all_goals (have E2 := endsY H2.out 42 (show t.pc ≠ 42 by rw [HP.out]; decide); go_wp2_with fail; with_reducible refine E2.mono ?_; clear E2; rintro e w9 ⟨rfl, h9⟩; have H9 := Lib.hid h9; clear h9; go_wp2; first | go_end0 | refine bodyPost_ret (results_none rfl _ _ _) rfl ?_)
    all_goals exact ⟨rfl, H9.out⟩

set_option maxRecDepth 100000 in
set_option maxHeartbeats 1600000 in
theorem actP42 (h : CM w0 M B p N v0 size t b ag l zs st w) (hp : t.pc = 42) (k0 : 0 ≤ st) (k1 : st < 1000000) : Calls Try.prog 45 #[.pointer (some ⟨N, 0, none⟩)] w fun e w' => e = .returned (.tuple #[]) ∧ CM w0 M B p N v0 size (swt ag t zs).t b ag l (swt ag t zs).zs (st + (swt ag t zs).c) w' := by
  rw [swt42 ag t zs hp]
  dsimp only
  have c1 := h.box.c1
  rw [hp] at c1
  have E := endsN h 42 hp
  have HP := Lib.hid hp
  have F := fun w (h : CM w0 M B p N v0 size t b ag l zs st w) => liveT h k0 k1
  clear h hp
  obtain ⟨is, his⟩ : ∃ is, (ld zs (ad t.cu 1) == 1) = is := ⟨_, rfl⟩
  rw [his] at F ⊢
  clear his
  obtain ⟨T, hT⟩ : ∃ T : Th, { t with lk := ld zs (ad t.cu 1) } = T := ⟨_, rfl⟩
  have HT := Lib.hid (show T.pc = 42 by rw [← hT]; exact HP.out)
  rw [hT] at F ⊢
  clear hT
  cases is
  · rw [show tkT false 43 T = byT T from rfl]
    go_enter Try.func45, Try.ntmps45
    go_wp2_with fail
    with_reducible refine E.mono ?_
    rintro e wh1 ⟨rfl, h1⟩
    clear E c1
    have F1 := F _ h1
    clear h1
    go_wp2_with fail
    with_reducible refine F1.mono ?_
    rintro e wh2 ⟨rfl, h2⟩
    clear F1
    have K := takesN h2
    clear h2
    go_wp2_with fail
    with_reducible refine K.mono ?_
    rintro e wh3 ⟨rfl, h3⟩
    clear K
    have H9 := Lib.hid h3
    clear h3
    go_wp2
    first | go_end0 | refine bodyPost_ret (results_none rfl _ _ _) rfl ?_
    exact ⟨rfl, H9.out⟩
  · rw [show tkT true 43 T = { T with pc := 43 } from rfl]
    go_enter Try.func45, Try.ntmps45
    go_wp2_with fail
    with_reducible refine E.mono ?_
    rintro e wh1 ⟨rfl, h1⟩
    clear E c1
    have F1 := F _ h1
    clear h1
    go_wp2_with fail
    with_reducible refine F1.mono ?_
    rintro e wh2 ⟨rfl, h2⟩
    clear F1
    have K := takesY h2
    clear h2
    go_wp2_with fail
    with_reducible refine K.mono ?_
    rintro e wh3 ⟨rfl, h3⟩
    clear K
    have E := endsY h3 43 (show T.pc ≠ 43 by rw [HT.out]; decide)
    clear h3
    go_wp2_with fail
    with_reducible refine E.mono ?_
    rintro e wh9 ⟨rfl, h9⟩
    clear E
    have H9 := Lib.hid h9
    clear h9
    go_wp2
    first | go_end0 | refine bodyPost_ret (results_none rfl _ _ _) rfl ?_
    exact ⟨rfl, H9.out⟩

set_option maxRecDepth 100000 in
set_option maxHeartbeats 1600000 in
theorem actP43 (h : CM w0 M B p N v0 size t b ag l zs st w) (hp : t.pc = 43) (k0 : 0 ≤ st) (k1 : st < 1000000) : Calls Try.prog 45 #[.pointer (some ⟨N, 0, none⟩)] w fun e w' => e = .returned (.tuple #[]) ∧ CM w0 M B p N v0 size (swt ag t zs).t b ag l (swt ag t zs).zs (st + (swt ag t zs).c) w' := by
  rw [swt43 ag t zs hp]
  dsimp only
  have c1 := h.box.c1
  rw [hp] at c1
  have E := endsN h 43 hp
  have HP := Lib.hid hp
  have F := fun w (h : CM w0 M B p N v0 size t b ag l zs st w) => oldT h k0 k1
  clear h hp
  obtain ⟨is, his⟩ : ∃ is, (decide (ag < wrap64 (t.ps - ld zs (ad t.cu 2)))) = is := ⟨_, rfl⟩
  rw [his] at F ⊢
  clear his
  obtain ⟨T, hT⟩ : ∃ T : Th, { t with lk := ld zs (ad t.cu 2) } = T := ⟨_, rfl⟩
  have HT := Lib.hid (show T.pc = 43 by rw [← hT]; exact HP.out)
  rw [hT] at F ⊢
  clear hT
  cases is
  · rw [show tkT false 44 T = byT T from rfl]
    go_enter Try.func45, Try.ntmps45
    go_wp2_with fail
    with_reducible refine E.mono ?_
    rintro e wh1 ⟨rfl, h1⟩
    clear E c1
    have F1 := F _ h1
    clear h1
    go_wp2_with fail
    with_reducible refine F1.mono ?_
    rintro e wh2 ⟨rfl, h2⟩
    clear F1
    have K := takesN h2
    clear h2
    go_wp2_with fail
    with_reducible refine K.mono ?_
    rintro e wh3 ⟨rfl, h3⟩
    clear K
    have H9 := Lib.hid h3
    clear h3
    go_wp2
    first | go_end0 | refine bodyPost_ret (results_none rfl _ _ _) rfl ?_
    exact ⟨rfl, H9.out⟩
  · rw [show tkT true 44 T = { T with pc := 44 } from rfl]
    go_enter Try.func45, Try.ntmps45
    go_wp2_with fail
    with_reducible refine E.mono ?_
    rintro e wh1 ⟨rfl, h1⟩
    clear E c1
    have F1 := F _ h1
    clear h1
    go_wp2_with fail
    with_reducible refine F1.mono ?_
    rintro e wh2 ⟨rfl, h2⟩
    clear F1
    have K := takesY h2
    clear h2
    go_wp2_with fail
    with_reducible refine K.mono ?_
    rintro e wh3 ⟨rfl, h3⟩
    clear K
    have E := endsY h3 44 (show T.pc ≠ 44 by rw [HT.out]; decide)
    clear h3
    go_wp2_with fail
    with_reducible refine E.mono ?_
    rintro e wh9 ⟨rfl, h9⟩
    clear E
    have H9 := Lib.hid h9
    clear h9
    go_wp2
    first | go_end0 | refine bodyPost_ret (results_none rfl _ _ _) rfl ?_
    exact ⟨rfl, H9.out⟩

set_option maxRecDepth 100000 in
set_option maxHeartbeats 1600000 in
theorem actP44 (h : CM w0 M B p N v0 size t b ag l zs st w) (hp : t.pc = 44) (k0 : 0 ≤ st) (k1 : st < 1000000) : Calls Try.prog 45 #[.pointer (some ⟨N, 0, none⟩)] w fun e w' => e = .returned (.tuple #[]) ∧ CM w0 M B p N v0 size (swt ag t zs).t b ag l (swt ag t zs).zs (st + (swt ag t zs).c) w' := by
  rw [swt44 ag t zs hp]
  dsimp only
  have c1 := h.box.c1
  rw [hp] at c1
  have E := endsN h 44 hp
  have HP := Lib.hid hp
  have F := fun w (h : CM w0 M B p N v0 size t b ag l zs st w) => closesT h k0 k1
  clear h hp
  obtain ⟨is, his⟩ : ∃ is, (swb zs (ad t.cu 0) 0) = is := ⟨_, rfl⟩
  rw [his] at F ⊢
  clear his
  cases is
  · rw [show tkT false 45 t = byT t from rfl]
    go_enter Try.func45, Try.ntmps45
    go_wp2_with fail
    with_reducible refine E.mono ?_
    rintro e wh1 ⟨rfl, h1⟩
    clear E c1
    have F1 := F _ h1
    clear h1
    go_wp2_with fail
    with_reducible refine F1.mono ?_
    rintro e wh2 ⟨rfl, h2⟩
    clear F1
    have K := takesN h2
    clear h2
    go_wp2_with fail
    with_reducible refine K.mono ?_
    rintro e wh3 ⟨rfl, h3⟩
    clear K
    have H9 := Lib.hid h3
    clear h3
    go_wp2
    first | go_end0 | refine bodyPost_ret (results_none rfl _ _ _) rfl ?_
    exact ⟨rfl, H9.out⟩
  · rw [show tkT true 45 t = { t with pc := 45 } from rfl]
    go_enter Try.func45, Try.ntmps45
    go_wp2_with fail
    with_reducible refine E.mono ?_
    rintro e wh1 ⟨rfl, h1⟩
    clear E c1
    have F1 := F _ h1
    clear h1
    go_wp2_with fail
    with_reducible refine F1.mono ?_
    rintro e wh2 ⟨rfl, h2⟩
    clear F1
    have K := takesY h2
    clear h2
    go_wp2_with fail
    with_reducible refine K.mono ?_
    rintro e wh3 ⟨rfl, h3⟩
    clear K
    have E := endsY h3 45 (show t.pc ≠ 45 by rw [HP.out]; decide)
    clear h3
    go_wp2_with fail
    with_reducible refine E.mono ?_
    rintro e wh9 ⟨rfl, h9⟩
    clear E
    have H9 := Lib.hid h9
    clear h9
    go_wp2
    first | go_end0 | refine bodyPost_ret (results_none rfl _ _ _) rfl ?_
    exact ⟨rfl, H9.out⟩

set_option maxRecDepth 100000 in
set_option maxHeartbeats 1600000 in
theorem actP45 (h : CM w0 M B p N v0 size t b ag l zs st w) (hp : t.pc = 45) (k0 : 0 ≤ st) (k1 : st < 1000000) : Calls Try.prog 45 #[.pointer (some ⟨N, 0, none⟩)] w fun e w' => e = .returned (.tuple #[]) ∧ CM w0 M B p N v0 size (swt ag t zs).t b ag l (swt ag t zs).zs (st + (swt ag t zs).c) w' := by
  rw [swt45 ag t zs hp]
  dsimp only
  have c1 := h.box.c1
  rw [hp] at c1
  have E := endsN h 45 hp
  have HP := Lib.hid hp
  clear h hp
  go_enter Try.func45, Try.ntmps45
  go_wp2_with fail
  with_reducible refine E.mono ?_
  rintro e wh1 ⟨rfl, h1⟩
  clear E c1
  have c6 := h1.box.c6
  have cf := h1.box.f
  have F := loadT h1 (wrap64 (t.cu + 3)) k0 k1
  clear h1
  go_wp2_with fail
  with_reducible refine F.mono ?_
  rintro e wh2 ⟨rfl, h2⟩
  clear F c6 cf
  have E := endsY h2 46 (show t.pc ≠ 46 by rw [HP.out]; decide)
  clear h2
  go_wp2_with fail
  with_reducible refine E.mono ?_
  rintro e wh9 ⟨rfl, h9⟩
  clear E
  have H9 := Lib.hid h9
  clear h9
  go_wp2
  first | go_end0 | refine bodyPost_ret (results_none rfl _ _ _) rfl ?_
  exact ⟨rfl, H9.out⟩

set_option maxRecDepth 100000 in
set_option maxHeartbeats 1600000 in
theorem actP46 (h : CM w0 M B p N v0 size t b ag l zs st w) (hp : t.pc = 46) (k0 : 0 ≤ st) (k1 : st < 1000000) : Calls Try.prog 45 #[.pointer (some ⟨N, 0, none⟩)] w fun e w' => e = .returned (.tuple #[]) ∧ CM w0 M B p N v0 size (swt ag t zs).t b ag l (swt ag t zs).zs (st + (swt ag t zs).c) w' := by
  rw [swt46 ag t zs hp]
  dsimp only
  have c1 := h.box.c1
  rw [hp] at c1
  have E := endsN h 46 hp
  have HP := Lib.hid hp
  clear h hp
  go_enter Try.func45, Try.ntmps45
  go_wp2_with fail
  with_reducible refine E.mono ?_
  rintro e wh1 ⟨rfl, h1⟩
  clear E c1
  have hd := h1.drew
  have i0 := show (fun w' : World => w'.cell? ⟨N, 7, none⟩ = some (.int .i64 t.pv) ∧ w'.cell? ⟨N, 5, none⟩ = some (.int .i64 t.lk)) _ from ⟨hd.box.c7, hd.box.c5⟩
  have F := storeT hd (IntKind.i64.wrap (t.pv + 3)) t.lk k0 k1
  clear h1 hd
  go_wp2
  go_region_held3 (fun w' : World => w'.cell? ⟨N, 7, none⟩ = some (.int .i64 t.pv) ∧ w'.cell? ⟨N, 5, none⟩ = some (.int .i64 t.lk)) (first | with_reducible exact i0 | with_reducible exact i1) (first
    | ((with_reducible refine F.mono ?_); rintro e w2 ⟨rfl, h2⟩; rw [IntWalk.i64_left] at h2; have i1 := show (fun w' : World => w'.cell? ⟨N, 7, none⟩ = some (.int .i64 t.pv) ∧ w'.cell? ⟨N, 5, none⟩ = some (.int .i64 t.lk)) _ from ⟨h2.box.c7, h2.box.c5⟩; have H2 := Lib.hid h2; clear h2))
  all_goals (have E2 := endsY H2.out 47 (show t.pc ≠ 47 by rw [HP.out]; decide); go_wp2_with fail; with_reducible refine E2.mono ?_; clear E2; rintro e w9 ⟨rfl, h9⟩; have H9 := Lib.hid h9; clear h9; go_wp2; first | go_end0 | refine bodyPost_ret (results_none rfl _ _ _) rfl ?_)
  all_goals exact ⟨rfl, H9.out⟩

set_option maxRecDepth 100000 in
set_option maxHeartbeats 1600000 in
theorem actP47 (h : CM w0 M B p N v0 size t b ag l zs st w) (hp : t.pc = 47) (k0 : 0 ≤ st) (k1 : st < 1000000) : Calls Try.prog 45 #[.pointer (some ⟨N, 0, none⟩)] w fun e w' => e = .returned (.tuple #[]) ∧ CM w0 M B p N v0 size (swt ag t zs).t b ag l (swt ag t zs).zs (st + (swt ag t zs).c) w' := by
  rw [swt47 ag t zs hp]
  dsimp only
  have c1 := h.box.c1
  rw [hp] at c1
  have E := endsN h 47 hp
  clear h hp
  go_enter Try.func45, Try.ntmps45
  go_wp2_with fail
  with_reducible refine E.mono ?_
  rintro e wh1 ⟨rfl, h1⟩
  clear E c1
  have c6 := h1.box.c6
  have cf := h1.box.f
  have F := storeT h1 (wrap64 (t.cu + 1)) 0 k0 k1
  clear h1
  go_wp2_with fail
  with_reducible refine F.mono ?_
  rintro e wh2 ⟨rfl, h2⟩
  clear F c6 cf
  have c1 := h2.box.c1
  have cf := h2.box.f
  have H2 := Lib.hid (h2.s1 41)
  clear h2
  go_wp2
  first | go_end0 | refine bodyPost_ret (results_none rfl _ _ _) rfl ?_
  exact ⟨rfl, H2.out⟩

set_option maxRecDepth 100000 in
set_option maxHeartbeats 1600000 in
theorem actP48 (h : CM w0 M B p N v0 size t b ag l zs st w) (hp : t.pc = 48) (k0 : 0 ≤ st) (k1 : st < 1000000) : Calls Try.prog 45 #[.pointer (some ⟨N, 0, none⟩)] w fun e w' => e = .returned (.tuple #[]) ∧ CM w0 M B p N v0 size (swt ag t zs).t b ag l (swt ag t zs).zs (st + (swt ag t zs).c) w' := by
  rw [swt48 ag t zs hp]
  dsimp only
  have c1 := h.box.c1
  rw [hp] at c1
  have F := storeT h 0 0 k0 k1
  clear h hp
  go_enter Try.func45, Try.ntmps45
  go_wp2_with fail
  with_reducible refine F.mono ?_
  rintro e wh2 ⟨rfl, h2⟩
  clear F c1
  have c1 := h2.box.c1
  have cf := h2.box.f
  have H2 := Lib.hid (h2.s1 11)
  clear h2
  go_wp2
  first | go_end0 | refine bodyPost_ret (results_none rfl _ _ _) rfl ?_
  exact ⟨rfl, H2.out⟩

theorem actS (h : CM w0 M B p N v0 size t b ag l zs st w) (hp : 40 ≤ t.pc ∧ t.pc ≤ 48) (k0 : 0 ≤ st) (k1 : st < 1000000) : Calls Try.prog 45 #[.pointer (some ⟨N, 0, none⟩)] w fun e w' => e = .returned (.tuple #[]) ∧ CM w0 M B p N v0 size (swt ag t zs).t b ag l (swt ag t zs).zs (st + (swt ag t zs).c) w' := by
  rcases (show t.pc = 40 ∨ t.pc = 41 ∨ t.pc = 42 ∨ t.pc = 43 ∨ t.pc = 44 ∨ t.pc = 45 ∨ t.pc = 46 ∨ t.pc = 47 ∨ t.pc = 48 by omega) with e | e | e | e | e | e | e | e | e
  · exact actP40 h e k0 k1
  · exact actP41 h e k0 k1
  · exact actP42 h e k0 k1
  · exact actP43 h e k0 k1
  · exact actP44 h e k0 k1
  · exact actP45 h e k0 k1
  · exact actP46 h e k0 k1
  · exact actP47 h e k0 k1
  · exact actP48 h e k0 k1
end

end Go.Proofs.Ytfnjbbokbdddpaa.M2
namespace Go.Proofs.Ytfnjbbokbdddpaa.M2
open Go.RowKit

theorem infoItem : (Try.prog.info? 93).map (fun i => (i.zero, i.size, i.bytes)) = some (some (.agg #[.int .i64 0, .int .i64 0, .int .i64 0]), 3, 24) := by kernel_rfl

set_option maxRecDepth 100000 in
set_option maxHeartbeats 1600000 in
theorem cloneR (w : World) (ao : Option Addr) (n cap : Nat) (l : List (Int × Int × Int)) (h : Its w ao n l) (hn : n ≤ 1000000) (hc : ao = none → cap = 0) :
    Calls Try.prog 44 #[.slice ao n cap] w fun e w' => ∃ v, e = .returned v ∧ BR w.heap.size w' v l ∧ Below w.heap.size w w' ∧ (ao = none → v = .slice none 0 0) := by
  obtain ⟨i0, hi, hz0, hz1, hz2⟩ := info_parts infoItem
  cases ao with
  | none =>
    have hn0 : n = 0 := by
      rcases Nat.eq_zero_or_pos n with h1 | h1
      · exact h1
      · obtain ⟨b, off, e, _⟩ := h.2 h1
        cases e
    subst hn0
    obtain rfl := hc rfl
    have he : ∀ w, (binOp .eql 23 (.slice none 0 0) (.slice none 0 0)).run Try.prog w = .ok (.bool true) w := fun _ => rfl
    have H := Lib.hid h
    clear h
    go_enter Try.func44, Try.ntmps44
    go_wp2
    go_ret
    have hl0 : l = [] := List.eq_nil_of_length_eq_zero H.out.1
    exact ⟨.slice none 0 0, rfl, by rw [hl0]; exact BR.nil _ _, Below.refl _ _, rfl⟩
  | some ad =>
    have H := Lib.hid h
    have HI := Lib.hid hi
    have H0 := Lib.hid hz0
    have H1 := Lib.hid hz1
    have H2 := Lib.hid hz2
    clear h hi hz0 hz1 hz2 hc
    have he : ∀ w, (binOp .eql 23 (.slice (some ad) n cap) (.slice none 0 0)).run Try.prog w = .ok (.bool false) w := fun _ => rfl
    go_enter Try.func44, Try.ntmps44
    have HO := Lib.hid (show (w.alloc (.cells #[] 93)).ownsRow w.heap.size 93 3 (.slice (some ⟨w.heap.size, 0, none⟩) 0 0) 0 [] from ⟨rfl, .inr ⟨w.heap.size, 0, #[], rfl, Nat.le_refl _, heap_alloc_new w _, by simp⟩⟩)
    have HA := Lib.hid (show Below w.heap.size w (w.alloc (.cells #[] 93)) from (Below.refl _ _).alloc (Nat.le_refl _) _)
    have HS := Lib.hid (show ∀ j u, (fi l)[j]? = some u → (w.alloc (.cells #[] 93)).cell? (ad.add j) = some u by
      intro j u hu
      rcases Nat.eq_zero_or_pos n with h0 | h0
      · have : fi l = [] := List.eq_nil_of_length_eq_zero (by rw [fi_length, H.out.1]; omega)
        rw [this] at hu
        simp at hu
      · obtain ⟨ad', e, hc⟩ := (H.out.keep HA.out).src h0
        injection e with e
        subst e
        exact hc j u hu)
    have HN := Lib.hid (fi_length l)
    have HL := Lib.hid H.out.1
    go_upto_region 3 with (fail)
    go_wp2_with (at_builtin; (refine wpList_append_own _ rfl (.tmp 5) (.tmp 6) 23 rfl w.heap.size 93 i0 _ 3 24 Try.underlying23 HI.out H0.out H1.out H2.out rfl (by decide) _ 0 [] rfl HO.out ad n cap (fi l) rfl (by rw [HN.out, HL.out]) HS.out (fi_one l) (by simp only [maxLen]; omega) (by omega) (by simp) ?_; intro v' w5 q5 g5 _; rw [Nat.zero_add, List.nil_append] at q5; have H5 := Lib.hid q5; have B5' := Lib.hid (HA.out.grown g5 (by simp) (fun k e => by injection e with e; exact Nat.le_of_eq e)); clear q5 g5))
    go_ret
    exact ⟨v', rfl, by unfold BR; rw [HL.out]; exact H5.out, B5'.out, fun h => by cases h⟩


theorem BR.its {M : Nat} {w : World} {b : Value} {l : List It3} (h : BR M w b l) : ∃ ao cap, b = .slice ao l.length cap ∧ Its w ao l.length l ∧ (∀ a, ao = some a → M ≤ a.block) ∧ (ao = none → cap = 0) ∧ b.ownBlock = ao.map (·.block) := by
  obtain ⟨ao, cap, rfl, h1, h2⟩ := Its.own h
  refine ⟨ao, cap, rfl, h1, h2, fun e => ?_, ?_⟩
  · subst e
    rcases h.2 with ⟨h', _⟩ | ⟨g, cap, cur, h', _⟩
    · injection h'
    · injection h' with h'; cases h'
  · cases ao <;> rfl
end Go.Proofs.Ytfnjbbokbdddpaa.M2
namespace Go.Proofs.Ytfnjbbokbdddpaa.M2
open Go.RowKit

set_option maxRecDepth 100000 in
set_option maxHeartbeats 1600000 in
theorem sweepsO (w : World) (t : Th) (b : Value) (hb : ∃ ao n cap, b = .slice ao n cap) : Calls Try.prog 24 #[thV t b] w fun e w' => e = .returned (.bool (decide (40 ≤ t.pc ∧ t.pc ≤ 48))) ∧ Below w.heap.size w w' := by
  unfold thV
  obtain ⟨ao, n, cap, rfl⟩ := hb
  have HB := Lib.hid (show Below w.heap.size w (w.alloc (.cells #[.int .i64 t.ti, .int .i64 t.pc, .int .i64 t.rc, .int .i64 t.sq, .int .i64 t.wo, .int .i64 t.lk, .int .i64 t.cu, .int .i64 t.pv, .int .i64 t.nt, .int .i64 t.mx, .int .i64 t.ps, .int .i64 t.rn, .slice ao n cap] 25)) from (Below.refl _ _).alloc (Nat.le_refl _) _)
  rcases (show t.pc < 40 ∨ (40 ≤ t.pc ∧ 48 < t.pc) ∨ (40 ≤ t.pc ∧ t.pc ≤ 48) from by omega) with h | h | h
  · have e : decide (40 ≤ t.pc ∧ t.pc ≤ 48) = false := decide_eq_false (by omega)
    rw [e]
    clear e
    have h1 : decide (40 ≤ t.pc) = false := decide_eq_false (by omega)
    generalize t.pc = y at *
    go_enter Try.func24, Try.ntmps24
    go_wp2
    go_ret
    exact ⟨rfl, HB.out⟩
  · have e : decide (40 ≤ t.pc ∧ t.pc ≤ 48) = false := decide_eq_false (by omega)
    rw [e]
    clear e
    obtain ⟨h1, h2⟩ := h
    have h3 : decide (40 ≤ t.pc) = true := decide_eq_true h1
    have h4 : decide (t.pc ≤ 48) = false := decide_eq_false (by omega)
    generalize t.pc = y at *
    go_enter Try.func24, Try.ntmps24
    go_wp2
    go_ret
    exact ⟨rfl, HB.out⟩
  · have e : decide (40 ≤ t.pc ∧ t.pc ≤ 48) = true := decide_eq_true h
    rw [e]
    clear e
    obtain ⟨h1, h2⟩ := h
    have h3 : decide (40 ≤ t.pc) = true := decide_eq_true h1
    have h4 : decide (t.pc ≤ 48) = true := decide_eq_true h2
    generalize t.pc = y at *
    go_enter Try.func24, Try.ntmps24
    go_wp2
    go_ret
    exact ⟨rfl, HB.out⟩

theorem sc_os (w : World) (q : Addr) (v : Value) : (w.setCell q v).os = w.os := rfl
theorem sc_tape (w : World) (q : Addr) (v : Value) : (w.setCell q v).tape = w.tape := rfl
theorem sc_output (w : World) (q : Addr) (v : Value) : (w.setCell q v).output = w.output := rfl
theorem setT_ot (w : World) (g : Nat) (t : Th) (b : Value) : (setT w g t b).os = w.os ∧ (setT w g t b).tape = w.tape ∧ (setT w g t b).output = w.output := by
  simp only [setT, sc_os, sc_tape, sc_output, and_self]
section
variable {w a : World} {B p g M : Nat} {v0 b b' : Value} {size : Int} {zs : List Int} {st : Int} {t t' : Th} {l : List It3}
theorem Did.setT (d : Did B p v0 size zs st w a) (hg : TX a g t b) (lo : w.heap.size ≤ g) (t' : Th) (b' : Value) : Did B p v0 size zs st w (setT a g t' b') := by
  obtain ⟨u, m, wr, lt⟩ := d
  have ne : ∀ {k : Nat} {cs : Array Value} {ty : TypeId}, a.heap[k]? = some (Obj.cells cs ty (0, 0)) → ty ≠ 25 → k ≠ g := fun {k cs ty} e hty h => by
    subst h
    unfold TX at hg
    rw [hg] at e
    simp only [Option.some.injEq, Obj.cells.injEq] at e
    exact hty e.2.1.symm
  have ot := setT_ot a g t' b'
  refine ⟨u, m.keep (setT_other a (ne m.block (by decide)) t' b') (fun q hq => ?_), ⟨ot.1.trans wr.os, ot.2.1.trans wr.tape, ot.2.2.trans wr.output, by rw [setT_size]; exact wr.size, fun k hk h1 h2 => (setT_other a (by omega) t' b').trans (wr.block k hk h1 h2)⟩, lt⟩
  rcases m.own.2 with ⟨rfl, _⟩ | ⟨g', cap, cur, rfl, _, hgg, _⟩
  · simp [Value.ownBlock] at hq
  · simp only [Value.ownBlock, Option.some.injEq] at hq
    subst hq
    exact setT_other a (ne hgg (by decide)) t' b'
theorem BR.setT {bb : Value} (r : BR M a bb l) (hg : TX a g t b) (t' : Th) (b' : Value) : BR M (setT a g t' b') bb l := r.keep fun q hq => by
  obtain ⟨cs, hc⟩ := r.block hq
  refine setT_other a (fun e => ?_) t' b'
  subst e
  unfold TX at hg
  rw [hg] at hc
  simp at hc
theorem Did.after {W : World} (hb : Below w.heap.size w W) (d : Did B p v0 size zs st W a) : Did B p v0 size zs st w a :=
  Did.comp (v := v0) ⟨hb.os, hb.tape, hb.output, hb.size, fun k hk _ _ => hb.block k hk⟩ (Later.refl _ _) d
theorem BR.low {M' : Nat} {bb : Value} (r : BR M a bb l) (h : M' ≤ M) : BR M' a bb l := by
  refine ⟨r.1, ?_⟩
  rcases r.2 with hn | ⟨q, c, cur, e, hl, x⟩
  · exact .inl hn
  · exact .inr ⟨q, c, cur, e, Nat.le_trans h hl, x⟩
end

def StepS (w : World) (B p : Nat) (v0 : Value) (size : Int) (S : Sw) (l : List It3) (ao : Option Addr) (st : Int) (e : Ending) (w' : World) : Prop :=
  ∃ b', e = .returned (thV S.t b') ∧ BR w.heap.size w' b' l ∧ (ao = none → b' = .slice none 0 0) ∧ Did B p v0 size S.zs (st + S.c) w w'

set_option maxRecDepth 100000 in
set_option maxHeartbeats 16000000 in
theorem stepS (w : World) {B p : Nat} {v0 : Value} {size : Int} {zs : List Int} {st : Int} (m : Mem w B p v0 size zs st) (ag : Int) (t : Th) (ao : Option Addr) (n cap : Nat) (l : List It3) (h : Its w ao n l) (hc : ao = none → cap = 0) (hl : l.length ≤ 1000) (k0 : 0 ≤ st) (k1 : st < 1000000) :
    Calls Try.prog 26 #[.pointer (some ⟨p, 0, none⟩), .int .i64 ag, thV t (.slice ao n cap)] w (StepS w B p v0 size (swt ag t zs) l ao st) := by
  have hn : n ≤ 1000 := by have := h.1; omega
  have HM := Lib.hid m
  clear m
  have HV := Lib.hid (show thV t (.slice ao n cap) = .agg #[.int .i64 t.ti, .int .i64 t.pc, .int .i64 t.rc, .int .i64 t.sq, .int .i64 t.wo, .int .i64 t.lk, .int .i64 t.cu, .int .i64 t.pv, .int .i64 t.nt, .int .i64 t.mx, .int .i64 t.ps, .int .i64 t.rn, .slice ao n cap] from rfl)
  rw [HV.out]
  have H := Lib.hid h
  have HC := Lib.hid hc
  clear h hc
  go_enter Try.func26, Try.ntmps26
  go_upto_region 2 with (fail)
  generalize hW0 : (w.alloc (.cells #[.int .i64 t.ti, .int .i64 t.pc, .int .i64 t.rc, .int .i64 t.sq, .int .i64 t.wo, .int .i64 t.lk, .int .i64 t.cu, .int .i64 t.pv, .int .i64 t.nt, .int .i64 t.mx, .int .i64 t.ps, .int .i64 t.rn, .slice ao n cap] 25)) = W0
  have HX0 := TX.new w t (.slice ao n cap)
  rw [hW0] at HX0
  have hb0 : Below w.heap.size w W0 := by subst hW0; exact (Below.refl _ _).alloc (Nat.le_refl _) _
  have hs0 : W0.heap.size = w.heap.size + 1 := by subst hW0; simp
  generalize hW1 : W0.alloc (.cells #[.int .i64 0, .int .i64 0, .int .i64 0, .int .i64 0, .int .i64 0, .int .i64 0, .int .i64 0, .int .i64 0, .int .i64 0, .int .i64 0, .int .i64 0, .int .i64 0, .slice none 0 0] 25) = W1
  have HY1 : TX W1 (w.heap.size + 1) t0 (.slice none 0 0) := by
    have := TX.new W0 t0 (.slice none 0 0)
    rw [hs0] at this
    rw [← hW1]
    exact this
  have HX1 := HX0.keep (show Below W0.heap.size W0 W1 by subst hW1; exact (Below.refl _ _).alloc (Nat.le_refl _) _)
  have hb1 : Below w.heap.size w W1 := hb0.trans (by subst hW1; exact (Below.refl _ _).alloc (by omega) _)
  have hs1 : W1.heap.size = w.heap.size + 1 + 1 := by subst hW1; simp [hs0]
  generalize hW2 : W1.alloc (.cells #[.int .i64 t.ti, .int .i64 t.pc, .int .i64 t.rc, .int .i64 t.sq, .int .i64 t.wo, .int .i64 t.lk, .int .i64 t.cu, .int .i64 t.pv, .int .i64 t.nt, .int .i64 t.mx, .int .i64 t.ps, .int .i64 t.rn, .slice ao n cap, .pointer (some ⟨p, 0, none⟩), .int .i64 ag] 90) = W2
  have HT2 : TC W2 (w.heap.size + 1 + 1) p t (.slice ao n cap) ag := by rw [← hs1]; subst hW2; exact TC.new W1 p t _ ag
  have hb12 : Below W1.heap.size W1 W2 := by subst hW2; exact (Below.refl _ _).alloc (Nat.le_refl _) _
  have HX2 := HX1.keep hb12
  have hb2 : Below w.heap.size w W2 := hb1.trans (hb12.mono (by omega))
  have hs2 : W2.heap.size = w.heap.size + 3 := by subst hW2; simp [hs1]
  have HB1 := Lib.hid hb1
  have HS1 := Lib.hid hs1
  have HB12 := Lib.hid hb12
  have HS2 := Lib.hid hs2
  have HY := Lib.hid HY1
  have HX := Lib.hid HX2
  have HT := Lib.hid HT2
  have C := cloneR W2 ao n cap l (H.out.keep hb2) (by omega) HC.out
  have c12 := HX2.c12
  clear hW0 hW1 hW2 HX0 hb0 hs0 HY1 HX1 hb1 hs1 HT2 hb12 HX2 hb2 hs2
  go_wp2_with fail
  with_reducible refine C.mono ?_
  clear C c12
  rintro e w3 ⟨v, rfl, br, b3, bn⟩
  have HBN := Lib.hid bn
  clear bn
  obtain ⟨av, cv, rfl, _⟩ := br.its
  have HT3 := (b3.block (w.heap.size + 1 + 1) HT.out.lt).trans HT.out
  have HT3 : TC w3 (w.heap.size + 1 + 1) p t (.slice ao n cap) ag := HT3
  have HT4 := HT3.s12 (.slice av l.length cv)
  have hne : ∀ q, q ≠ w.heap.size + 1 + 1 → (w3.setCell ⟨w.heap.size + 1 + 1, 12, none⟩ (.slice av l.length cv)).heap[q]? = w3.heap[q]? := fun q hq => Below.heap_setCell _ _ _ _ hq
  have lt4 : ∀ q, (Value.slice av l.length cv).ownBlock = some q → q ≠ w.heap.size + 1 + 1 := fun q hq => by have := (br.lt q hq).1; have := HS1.out; have := HS2.out; omega
  have BR4 := br.keep (w' := w3.setCell ⟨w.heap.size + 1 + 1, 12, none⟩ (.slice av l.length cv)) (fun q hq => hne q (lt4 q hq))
  have hb14 : Below W1.heap.size W1 (w3.setCell ⟨w.heap.size + 1 + 1, 12, none⟩ (.slice av l.length cv)) := (HB12.out.trans (b3.mono (by have := HS1.out; have := HS2.out; omega))).setCell (by have := HS1.out; exact Nat.le_of_eq this) _
  have HX4 : TX (w3.setCell ⟨w.heap.size + 1 + 1, 12, none⟩ (.slice av l.length cv)) w.heap.size t (.slice ao n cap) := ((hne _ (by have := HS1.out; omega)).trans (b3.block _ HX.out.lt)).trans HX.out
  have d12 := HT3.c12
  have df := HT3.f
  have HX3 : TX w3 w.heap.size t (.slice ao n cap) := (b3.block _ HX.out.lt).trans HX.out
  have HSV := Lib.hid (And.intro HT4 (And.intro BR4 (And.intro hb14 HX4)))
  have HX3' := Lib.hid HX3
  have sz4 : W2.heap.size ≤ w3.heap.size := b3.size
  have HZ4 := Lib.hid sz4
  clear HT3 HT4 hne lt4 BR4 hb14 HX4 HX3 b3 br sz4
  go_upto_region 3 with (fail)
  obtain ⟨w4, hw4⟩ : ∃ w4, w4 = w3.setCell ⟨w.heap.size + 1 + 1, 12, none⟩ (.slice av l.length cv) := ⟨_, rfl⟩
  have hsz : w4.heap.size = w3.heap.size := by rw [hw4]; simp [World.setCell]
  rw [← hw4] at HSV ⊢
  have HSZ := Lib.hid (show W2.heap.size ≤ w4.heap.size by rw [hsz]; exact HZ4.out)
  clear hw4 d12 df hsz HZ4 HX3'
  have A := sweepsO w4 t (.slice ao n cap) ⟨_, _, _, rfl⟩
  rw [HV.out] at A
  have HA := Lib.hid A
  have x := HSV.out.2.2.2
  have c0 := x.c0
  have c1 := x.c1
  have c2 := x.c2
  have c3 := x.c3
  have c4 := x.c4
  have c5 := x.c5
  have c6 := x.c6
  have c7 := x.c7
  have c8 := x.c8
  have c9 := x.c9
  have c10 := x.c10
  have c11 := x.c11
  have c12 := x.c12
  clear A x
  go_wp2_with fail
  with_reducible refine HA.out.mono ?_
  clear HA c0 c1 c2 c3 c4 c5 c6 c7 c8 c9 c10 c11 c12
  rintro e w5 ⟨rfl, b5⟩
  have H5 : CM W1 W2.heap.size B p (w.heap.size + 1 + 1) v0 size t (.slice av l.length cv) ag l zs st w5 := by
    obtain ⟨t4, r4, b14, x4⟩ := HSV.out
    have m1 := HM.out.fresh HB1.out
    have c : CM W1 W2.heap.size B p (w.heap.size + 1 + 1) v0 size t (.slice av l.length cv) ag l zs st w4 :=
      ⟨t4, ⟨v0, m1.fresh b14, ⟨b14.os, b14.tape, b14.output, b14.size, fun k hk _ _ => b14.block k hk⟩, Later.refl _ _⟩, Nat.le_of_eq HS1.out, r4, HSZ.out⟩
    exact c.fresh b5
  have H5' := Lib.hid H5
  clear H5 b5 HSV
  by_cases hs : 40 ≤ t.pc ∧ t.pc ≤ 48
  · rw [decide_eq_true hs]
    have C := Lib.hid (actS H5'.out hs k0 k1)
    clear hs
    go_wp2_with fail
    with_reducible refine C.out.mono ?_
    clear C
    rintro e w6 ⟨rfl, h6⟩
    have H6 := Lib.hid h6
    clear h6 H5'
    obtain ⟨S, hS⟩ : ∃ S, swt ag t zs = S := ⟨_, rfl⟩
    rw [hS] at H6
    have HSE := Lib.hid hS
    clear hS
    have HY6 := Lib.hid (show TX w6 (w.heap.size + 1) t0 (.slice none 0 0) by
      obtain ⟨u, m6, wr6, lt6⟩ := H6.out.did
      have m1 := HM.out
      exact (wr6.block _ (by have := HS1.out; omega) (fun e => by have := m1.lt; omega) (fun e => by have := (m1.rowLt e).2; omega)).trans HY.out)
    have HBX := Lib.hid H6.out.box
    have x := HBX.out
    have c0 := x.c0
    have c1 := x.c1
    have c2 := x.c2
    have c3 := x.c3
    have c4 := x.c4
    have c5 := x.c5
    have c6 := x.c6
    have c7 := x.c7
    have c8 := x.c8
    have c9 := x.c9
    have c10 := x.c10
    have c11 := x.c11
    have c12 := x.c12
    have y := HY6.out
    have yf := y.f
    have r0 := y.c0
    have r1 := y.c1
    have r2 := y.c2
    have r3 := y.c3
    have r4 := y.c4
    have r5 := y.c5
    have r6 := y.c6
    have r7 := y.c7
    have r8 := y.c8
    have r9 := y.c9
    have r10 := y.c10
    have r11 := y.c11
    have r12 := y.c12
    have hne : ¬ w.heap.size + 1 + 1 = w.heap.size + 1 := by omega
    clear x y
    go_wp2
    change bodyPost _ _ _ _ _ (setT w6 (w.heap.size + 1) S.t (.slice av l.length cv))
    have Z := HY6.out.all S.t (.slice av l.length cv)
    have HZ := Lib.hid (HY6.out)
    clear r0 r1 r2 r3 r4 r5 r6 r7 r8 r9 r10 r11 r12 c0 c1 c2 c3 c4 c5 c6 c7 c8 c9 c10 c11 c12 yf
    refine bodyPost_ret (v := thV S.t (.slice av l.length cv)) (by simp [results, Try.results26, go_sem, thV, Z.c0, Z.c1, Z.c2, Z.c3, Z.c4, Z.c5, Z.c6, Z.c7, Z.c8, Z.c9, Z.c10, Z.c11, Z.c12]) rfl ?_
    refine ⟨.slice av l.length cv, by rw [HSE.out], ?_, HBN.out, ?_⟩
    · exact ((H6.out.row.low (by have := HS2.out; omega)).setT HZ.out S.t (.slice av l.length cv))
    · rw [HSE.out]
      exact ((Did.after HB1.out H6.out.did).setT HZ.out (Nat.le_succ _) S.t (.slice av l.length cv))

  · rw [decide_eq_false hs]
    obtain ⟨w6, hw6⟩ : ∃ w6, w6 = w5 := ⟨_, rfl⟩
    have h6 : CM W1 W2.heap.size B p (w.heap.size + 1 + 1) v0 size (swt ag t zs).t (.slice av l.length cv) ag l (swt ag t zs).zs (st + (swt ag t zs).c) w6 := by
      rw [swt0 ag t zs hs, hw6]
      simpa using H5'.out
    rw [← hw6]
    have H6 := Lib.hid h6
    clear h6 H5' hs hw6
    obtain ⟨S, hS⟩ : ∃ S, swt ag t zs = S := ⟨_, rfl⟩
    rw [hS] at H6
    have HSE := Lib.hid hS
    clear hS
    have HY6 := Lib.hid (show TX w6 (w.heap.size + 1) t0 (.slice none 0 0) by
      obtain ⟨u, m6, wr6, lt6⟩ := H6.out.did
      have m1 := HM.out
      exact (wr6.block _ (by have := HS1.out; omega) (fun e => by have := m1.lt; omega) (fun e => by have := (m1.rowLt e).2; omega)).trans HY.out)
    have HBX := Lib.hid H6.out.box
    have x := HBX.out
    have c0 := x.c0
    have c1 := x.c1
    have c2 := x.c2
    have c3 := x.c3
    have c4 := x.c4
    have c5 := x.c5
    have c6 := x.c6
    have c7 := x.c7
    have c8 := x.c8
    have c9 := x.c9
    have c10 := x.c10
    have c11 := x.c11
    have c12 := x.c12
    have y := HY6.out
    have yf := y.f
    have r0 := y.c0
    have r1 := y.c1
    have r2 := y.c2
    have r3 := y.c3
    have r4 := y.c4
    have r5 := y.c5
    have r6 := y.c6
    have r7 := y.c7
    have r8 := y.c8
    have r9 := y.c9
    have r10 := y.c10
    have r11 := y.c11
    have r12 := y.c12
    have hne : ¬ w.heap.size + 1 + 1 = w.heap.size + 1 := by omega
    clear x y
    go_wp2
    change bodyPost _ _ _ _ _ (setT w6 (w.heap.size + 1) S.t (.slice av l.length cv))
    have Z := HY6.out.all S.t (.slice av l.length cv)
    have HZ := Lib.hid (HY6.out)
    clear r0 r1 r2 r3 r4 r5 r6 r7 r8 r9 r10 r11 r12 c0 c1 c2 c3 c4 c5 c6 c7 c8 c9 c10 c11 c12 yf
    refine bodyPost_ret (v := thV S.t (.slice av l.length cv)) (by simp [results, Try.results26, go_sem, thV, Z.c0, Z.c1, Z.c2, Z.c3, Z.c4, Z.c5, Z.c6, Z.c7, Z.c8, Z.c9, Z.c10, Z.c11, Z.c12]) rfl ?_
    refine ⟨.slice av l.length cv, by rw [HSE.out], ?_, HBN.out, ?_⟩
    · exact ((H6.out.row.low (by have := HS2.out; omega)).setT HZ.out S.t (.slice av l.length cv))
    · rw [HSE.out]
      exact ((Did.after HB1.out H6.out.did).setT HZ.out (Nat.le_succ _) S.t (.slice av l.length cv))


end Go.Proofs.Ytfnjbbokbdddpaa.M2
namespace Go.Proofs.Ytfnjbbokbdddpaa.M2
open Go.RowKit

def thN (t : Th) : Value := .agg #[.int .i64 t.ti, .int .i64 t.pc, .int .i64 t.rc, .int .i64 t.sq, .int .i64 t.wo, .int .i64 t.lk, .int .i64 t.cu, .int .i64 t.pv, .int .i64 t.nt, .int .i64 t.mx, .int .i64 t.ps, .int .i64 t.rn, .slice none 0 0]
theorem thN_eq (t : Th) : thV t (.slice none 0 0) = thN t := rfl

section
variable {w : World} {B p : Nat} {size : Int} {zs : List Int} {st : Int}
theorem stepM {v0 : Value} (m : Mem w B p v0 size zs st) (ag : Int) (t : Th) (k0 : 0 ≤ st) (k1 : st < 1000000) :
    Calls Try.prog 26 #[.pointer (some ⟨p, 0, none⟩), .int .i64 ag, thN t] w fun e w' => e = .returned (thN (swt ag t zs).t) ∧ Did B p v0 size (swt ag t zs).zs (st + (swt ag t zs).c) w w' := by
  rw [← thN_eq]
  refine (stepS w m ag t none 0 0 [] (Its.zero w none) (fun _ => rfl) (by simp) k0 k1).mono ?_
  rintro e w' ⟨b', rfl, _, n0, d⟩
  rw [n0 rfl]
  exact ⟨rfl, d⟩

end

theorem sweepsN (w : World) (t : Th) : Calls Try.prog 24 #[thN t] w fun e w' => e = .returned (.bool (decide (40 ≤ t.pc ∧ t.pc ≤ 48))) ∧ Below w.heap.size w w' := by
  rw [← thN_eq]
  exact sweepsO w t _ ⟨_, _, _, rfl⟩

theorem TX.off {w w' : World} {g : Nat} {t : Th} {b : Value} (h : TX w g t b) (k : Kept w w') : TX w' g t b := k _ _ _ h (by decide) (by decide)
end Go.Proofs.Ytfnjbbokbdddpaa.M2
