/-
  What a call on a memory tells whatever the address is: Load, Store, Swap and Alloc of five cells, the program's and the document's; threads in plain numbers, and what a step makes of one. Conditions: a memory as Mem says; steps below a million. A turn (package owner) in a block of its own beside the memory it steps at. Conditions: none; no Go function is looked at here.
-/
import Derived.Test.YthefdglocnalhaaMemA15
import Derived.Test.YthefdglocnalhaaMRef13
namespace Go.Proofs.Ythefdglocnalhaa.M2
open Go.RowKit

/-- A cell's number, or 0 where there is none; the error; whether it counts as a step. -/
def ld (zs : List Int) (a : Int) : Int := if 0 ≤ a ∧ a < zs.length then zs.getD a.toNat 0 else 0
def ce (zs : List Int) (a : Int) : Int := if 0 ≤ a ∧ a < zs.length then 0 else 10
def cn (zs : List Int) (a : Int) : Int := if 0 ≤ a ∧ a < zs.length then 1 else 0
def sto (zs : List Int) (a x : Int) : List Int := if 0 ≤ a ∧ a < zs.length then zs.set a.toNat x else zs
def swb (zs : List Int) (a o : Int) : Bool := decide (0 ≤ a ∧ a < zs.length ∧ zs.getD a.toNat 0 = o)
def swp (zs : List Int) (a o x : Int) : List Int := if 0 ≤ a ∧ a < zs.length ∧ zs.getD a.toNat 0 = o then zs.set a.toNat x else zs
/-- Is there room for five cells? -/
def rm (size : Int) (zs : List Int) : Bool := decide (5 ≤ size - zs.length)
def alA (size : Int) (zs : List Int) : Int := if rm size zs then (zs.length : Int) else 0
def alE (size : Int) (zs : List Int) : Int := if rm size zs then 0 else 11
def alC (size : Int) (zs : List Int) : Int := if rm size zs then 1 else 0
def alZ (size : Int) (zs : List Int) : List Int := if rm size zs then zs ++ List.replicate 5 0 else zs

theorem cn_bd (zs : List Int) (a : Int) : 0 ≤ cn zs a ∧ cn zs a ≤ 1 := by unfold cn; split <;> omega
theorem alC_bd (size : Int) (zs : List Int) : 0 ≤ alC size zs ∧ alC size zs ≤ 1 := by unfold alC; split <;> omega
theorem ce_or (zs : List Int) (a : Int) : (ce zs a = 0) ∨ (ce zs a = 10 ∧ ld zs a = 0) := by unfold ce ld; split <;> simp
theorem ce_sw (zs : List Int) (a o : Int) : (ce zs a = 0) ∨ (ce zs a = 10 ∧ swb zs a o = false) := by
  unfold ce swb
  split
  · simp
  · rename_i h
    exact .inr ⟨rfl, by simp only [decide_eq_false_iff_not]; rintro ⟨h1, h2, _⟩; exact h ⟨h1, h2⟩⟩
theorem sto_length (zs : List Int) (a x : Int) : (sto zs a x).length = zs.length := by unfold sto; split <;> simp
theorem swp_length (zs : List Int) (a o x : Int) : (swp zs a o x).length = zs.length := by unfold swp; split <;> simp

section
variable {w : World} {B p : Nat} {v : Value} {size : Int} {zs : List Int} {st : Int}

theorem loadD (m : Mem w B p v size zs st) (a : Int) (k0 : 0 ≤ st) (k1 : st < 1000000) :
    Calls Try.prog 26 #[.pointer (some ⟨p, 0, none⟩), .int .i64 a] w fun e w' => e = .returned (.tuple #[.int .i64 (ld zs a), .int .u16 (ce zs a)]) ∧ Did B p v size zs (st + cn zs a) w w' := by
  by_cases h : 0 ≤ a ∧ a < zs.length
  · rw [show ld zs a = zs.getD a.toNat 0 from if_pos h, show ce zs a = 0 from if_pos h, show cn zs a = 1 from if_pos h]
    exact loadIn m a h.1 h.2 k0 k1
  · rw [show ld zs a = 0 from if_neg h, show ce zs a = 10 from if_neg h, show cn zs a = 0 from if_neg h, Int.add_zero]
    exact loadOut m a (by omega)

theorem storeD (m : Mem w B p v size zs st) (a x : Int) (k0 : 0 ≤ st) (k1 : st < 1000000) :
    Calls Try.prog 19 #[.pointer (some ⟨p, 0, none⟩), .int .i64 a, .int .i64 x] w fun e w' => e = .returned (.int .u16 (ce zs a)) ∧ Did B p v size (sto zs a x) (st + cn zs a) w w' := by
  by_cases h : 0 ≤ a ∧ a < zs.length
  · rw [show sto zs a x = zs.set a.toNat x from if_pos h, show ce zs a = 0 from if_pos h, show cn zs a = 1 from if_pos h]
    exact storeIn m a x h.1 h.2 k0 k1
  · rw [show sto zs a x = zs from if_neg h, show ce zs a = 10 from if_neg h, show cn zs a = 0 from if_neg h, Int.add_zero]
    exact storeOut m a x (by omega)

theorem swapD (m : Mem w B p v size zs st) (a o x : Int) (k0 : 0 ≤ st) (k1 : st < 1000000) :
    Calls Try.prog 86 #[.pointer (some ⟨p, 0, none⟩), .int .i64 a, .int .i64 o, .int .i64 x] w fun e w' => e = .returned (.tuple #[.bool (swb zs a o), .int .u16 (ce zs a)]) ∧ Did B p v size (swp zs a o x) (st + cn zs a) w w' := by
  by_cases h : 0 ≤ a ∧ a < zs.length
  · rw [show ce zs a = 0 from if_pos h, show cn zs a = 1 from if_pos h]
    by_cases ho : zs.getD a.toNat 0 = o
    · rw [show swb zs a o = true from decide_eq_true ⟨h.1, h.2, ho⟩, show swp zs a o x = zs.set a.toNat x from if_pos ⟨h.1, h.2, ho⟩]
      exact swapIn m a o x h.1 h.2 ho k0 k1
    · rw [show swb zs a o = false from decide_eq_false (fun k => ho k.2.2), show swp zs a o x = zs from if_neg (fun k => ho k.2.2)]
      exact swapNo m a o x h.1 h.2 ho k0 k1
  · rw [show swb zs a o = false from decide_eq_false (fun k => h ⟨k.1, k.2.1⟩), show swp zs a o x = zs from if_neg (fun k => h ⟨k.1, k.2.1⟩), show ce zs a = 10 from if_neg h, show cn zs a = 0 from if_neg h, Int.add_zero]
    exact swapOut m a o x (by omega)

theorem allocD (m : Mem w B p v size zs st) (k0 : 0 ≤ st) (k1 : st < 1000000) :
    Calls Try.prog 35 #[.pointer (some ⟨p, 0, none⟩), .int .i64 5] w fun e w' => e = .returned (.tuple #[.int .i64 (alA size zs), .int .u16 (alE size zs)]) ∧ Did B p v size (alZ size zs) (st + alC size zs) w w' := by
  by_cases h : 5 ≤ size - (zs.length : Int)
  · have e : rm size zs = true := decide_eq_true h
    rw [show alA size zs = (zs.length : Int) from if_pos e, show alE size zs = 0 from if_pos e, show alC size zs = 1 from if_pos e, show alZ size zs = zs ++ List.replicate 5 0 from if_pos e]
    exact allocOk m 5 (by omega) k0 k1
  · have e : ¬ rm size zs = true := fun k => h (of_decide_eq_true k)
    rw [show alA size zs = 0 from if_neg e, show alE size zs = 11 from if_neg e, show alC size zs = 0 from if_neg e, show alZ size zs = zs from if_neg e, Int.add_zero]
    exact allocFull m 5 ⟨by omega, by omega⟩
end

section
variable {w : World} {B : Nat} {u : Value} {size : Int} {zs : List Int} {st : Int}

theorem refLoadD (h : w.ownsRow B 2 1 u zs.length (zs.map (Value.int .i64))) (hB : B ≤ w.heap.size) (a : Int) (k0 : 0 ≤ st) (k1 : st < 1000000) :
    Calls Try.prog 48 #[.agg #[.int .i64 size, u, .int .i64 st], .int .i64 a] w fun e w' => ∃ u', e = .returned (.tuple #[.agg #[.int .i64 size, u', .int .i64 (st + cn zs a)], .int .i64 (ld zs a), .int .i64 (ce zs a)]) ∧ Left w B u zs u' w' := by
  by_cases i : 0 ≤ a ∧ a < zs.length
  · rw [show ld zs a = zs.getD a.toNat 0 from if_pos i, show ce zs a = 0 from if_pos i, show cn zs a = 1 from if_pos i]
    exact refLoadIn h hB a i.1 i.2 k0 k1
  · rw [show ld zs a = 0 from if_neg i, show ce zs a = 10 from if_neg i, show cn zs a = 0 from if_neg i, Int.add_zero]
    exact refLoadOut h hB a (by omega)

theorem refStoreD (h : w.ownsRow B 2 1 u zs.length (zs.map (Value.int .i64))) (hB : B ≤ w.heap.size) (hl : zs.length ≤ 1000) (a x : Int) (k0 : 0 ≤ st) (k1 : st < 1000000) :
    Calls Try.prog 20 #[.agg #[.int .i64 size, u, .int .i64 st], .int .i64 a, .int .i64 x] w fun e w' => ∃ u', e = .returned (.tuple #[.agg #[.int .i64 size, u', .int .i64 (st + cn zs a)], .int .i64 (ce zs a)]) ∧ Left w B u (sto zs a x) u' w' := by
  by_cases i : 0 ≤ a ∧ a < zs.length
  · rw [show sto zs a x = zs.set a.toNat x from if_pos i, show ce zs a = 0 from if_pos i, show cn zs a = 1 from if_pos i]
    exact refStoreIn h hB a x i.1 i.2 hl k0 k1
  · rw [show sto zs a x = zs from if_neg i, show ce zs a = 10 from if_neg i, show cn zs a = 0 from if_neg i, Int.add_zero]
    exact refStoreOut h hB a x (by omega)

theorem refSwapD (h : w.ownsRow B 2 1 u zs.length (zs.map (Value.int .i64))) (hB : B ≤ w.heap.size) (hl : zs.length ≤ 1000) (a o x : Int) (k0 : 0 ≤ st) (k1 : st < 1000000) :
    Calls Try.prog 50 #[.agg #[.int .i64 size, u, .int .i64 st], .int .i64 a, .int .i64 o, .int .i64 x] w fun e w' => ∃ u', e = .returned (.tuple #[.agg #[.int .i64 size, u', .int .i64 (st + cn zs a)], .bool (swb zs a o), .int .i64 (ce zs a)]) ∧ Left w B u (swp zs a o x) u' w' := by
  by_cases i : 0 ≤ a ∧ a < zs.length
  · rw [show ce zs a = 0 from if_pos i, show cn zs a = 1 from if_pos i]
    by_cases ho : zs.getD a.toNat 0 = o
    · rw [show swb zs a o = true from decide_eq_true ⟨i.1, i.2, ho⟩, show swp zs a o x = zs.set a.toNat x from if_pos ⟨i.1, i.2, ho⟩]
      exact refSwapIn h hB a o x i.1 i.2 ho hl k0 k1
    · rw [show swb zs a o = false from decide_eq_false (fun k => ho k.2.2), show swp zs a o x = zs from if_neg (fun k => ho k.2.2)]
      exact refSwapNo h hB a o x i.1 i.2 ho hl k0 k1
  · rw [show swb zs a o = false from decide_eq_false (fun k => i ⟨k.1, k.2.1⟩), show swp zs a o x = zs from if_neg (fun k => i ⟨k.1, k.2.1⟩), show ce zs a = 10 from if_neg i, show cn zs a = 0 from if_neg i, Int.add_zero]
    exact refSwapOut h hB a o x (by omega)

theorem refAllocD (h : w.ownsRow B 2 1 u zs.length (zs.map (Value.int .i64))) (hB : B ≤ w.heap.size) (s0 : 0 ≤ size) (s1 : size ≤ 1000) (s2 : (zs.length : Int) ≤ size) (k0 : 0 ≤ st) (k1 : st < 1000000) :
    Calls Try.prog 37 #[.agg #[.int .i64 size, u, .int .i64 st], .int .i64 5] w fun e w' => ∃ u', e = .returned (.tuple #[.agg #[.int .i64 size, u', .int .i64 (st + alC size zs)], .int .i64 (alA size zs), .int .i64 (alE size zs)]) ∧ Left w B u (alZ size zs) u' w' := by
  by_cases i : 5 ≤ size - (zs.length : Int)
  · have e : rm size zs = true := decide_eq_true i
    rw [show alA size zs = (zs.length : Int) from if_pos e, show alE size zs = 0 from if_pos e, show alC size zs = 1 from if_pos e, show alZ size zs = zs ++ List.replicate 5 0 from if_pos e]
    exact refAllocOk h hB 5 s1 s2 (by omega) k0 k1
  · have e : ¬ rm size zs = true := fun k => i (of_decide_eq_true k)
    rw [show alA size zs = 0 from if_neg e, show alE size zs = 11 from if_neg e, show alC size zs = 0 from if_neg e, show alZ size zs = zs from if_neg e, Int.add_zero]
    exact refAllocFull h hB 5 s0 s1 s2 (by omega) (by omega)
end

/-- A thread's numbers. -/
structure Th where
  ti : Int
  pc : Int
  rc : Int
  sq : Int
  wo : Int
  lk : Int
  cu : Int
  pv : Int
  nt : Int
  mx : Int
  ps : Int
  rn : Int

/-- A thread, with its batch. -/
def thV (t : Th) (b : Value) : Value := .agg #[.int .i64 t.ti, .int .i64 t.pc, .int .i64 t.rc, .int .i64 t.sq, .int .i64 t.wo, .int .i64 t.lk, .int .i64 t.cu, .int .i64 t.pv, .int .i64 t.nt, .int .i64 t.mx, .int .i64 t.ps, .int .i64 t.rn, b]

/-- One of two. -/
def fk (is : Bool) (a b : Int) : Int := if is then a else b
def ad (a b : Int) : Int := wrap64 (a + b)
/-- What a word tells. -/
def okW (n : Int) : Bool := decide (1 ≤ n ∧ n ≤ 1099511627776)
def rK (n : Int) : Int := if okW n then kd n else 0
def rV (n : Int) : Int := if okW n then vl n else 0

/-- What a step leaves: the thread, the cells, how many steps more, what is told. -/
structure Sp where
  t : Th
  zs : List Int
  c : Int
  k : Int
  v : Int
  d : Bool

def stp (size : Int) (t : Th) (zs : List Int) : Sp :=
  if t.pc = 1 then ⟨{ t with rc := fk (rm size zs) (alA size zs) t.rc, pc := fk (rm size zs) 2 1 }, alZ size zs, alC size zs, 0, 0, false⟩
  else if t.pc = 2 then ⟨{ t with pc := fk (swb zs t.rc 0) 5 3 }, swp zs t.rc 0 t.wo, cn zs t.rc, 0, 0, false⟩
  else if t.pc = 3 then ⟨{ t with lk := ld zs (ad t.rc 1), pc := fk (ld zs (ad t.rc 1) == 0) 4 3 }, zs, cn zs (ad t.rc 1), 0, 0, false⟩
  else if t.pc = 4 then ⟨{ t with pc := 5 }, sto zs t.rc t.wo, cn zs t.rc, 0, 0, false⟩
  else if t.pc = 5 then ⟨{ t with lk := ld zs (ad t.rc 1), pc := fk (ld zs (ad t.rc 1) == 0) 6 11 }, zs, cn zs (ad t.rc 1), 0, 0, false⟩
  else if t.pc = 6 then ⟨{ t with pc := fk (swb zs (ad t.rc 1) 0) 15 11 }, swp zs (ad t.rc 1) 0 2, cn zs (ad t.rc 1), 0, 0, false⟩
  else if t.pc = 7 then ⟨{ t with lk := ld zs 1, pc := 8 }, zs, cn zs 1, 0, 0, false⟩
  else if t.pc = 8 then ⟨{ t with pc := 9 }, sto zs (ad t.rc 3) t.lk, cn zs (ad t.rc 3), 0, 0, false⟩
  else if t.pc = 9 then ⟨{ t with lk := fk (swb zs 1 t.lk) 1 0, pc := 10 }, swp zs 1 t.lk t.rc, cn zs 1, 0, 0, false⟩
  else if t.pc = 10 then ⟨{ t with pc := 11 }, sto zs (ad t.rc 1) t.lk, cn zs (ad t.rc 1), 0, 0, false⟩
  else if t.pc = 11 then ⟨{ t with lk := ld zs t.rc, pc := fk (ld zs t.rc == t.wo) 12 14 }, zs, cn zs t.rc, 0, 0, false⟩
  else if t.pc = 12 then ⟨{ t with lk := ld zs 0, pc := fk (ld zs 0 == 0) 13 11 }, zs, cn zs 0, 0, 0, false⟩
  else if t.pc = 13 then ⟨{ t with pc := fk (swb zs 0 0) 20 11, rn := fk (swb zs 0 0) 0 t.rn }, swp zs 0 0 (ad t.ti 1), cn zs 0, 0, 0, false⟩
  else if t.pc = 14 then ⟨{ t with lk := ld zs (ad t.rc 4), wo := 0, pc := 0 }, zs, cn zs (ad t.rc 4), rK (ld zs (ad t.rc 4)), rV (ld zs (ad t.rc 4)), true⟩
  else if t.pc = 15 then ⟨{ t with lk := ld zs t.rc, pc := fk (ld zs t.rc == t.wo) 7 16 }, zs, cn zs t.rc, 0, 0, false⟩
  else if t.pc = 16 then ⟨{ t with pc := 11 }, sto zs (ad t.rc 1) 0, cn zs (ad t.rc 1), 0, 0, false⟩
  else ⟨t, zs, 0, 0, 0, false⟩

/-- The numbers that are added to are as big as they can be in the program. -/
def Th.ok (t : Th) : Prop := (-9223372036854775808 ≤ t.rc ∧ t.rc ≤ 9223372036854775807) ∧ (-9223372036854775808 ≤ t.pc ∧ t.pc ≤ 9223372036854775807)

end Go.Proofs.Ythefdglocnalhaa.M2
namespace Go.Proofs.Ythefdglocnalhaa.M2
open Go.RowKit

/-- A turn in block N: its thread, its memory, what it is told. -/
def TB (w : World) (N p : Nat) (t : Th) (b : Value) (k v : Int) (d : Bool) : Prop :=
  w.heap[N]? = some (.cells #[.int .i64 t.ti, .int .i64 t.pc, .int .i64 t.rc, .int .i64 t.sq, .int .i64 t.wo, .int .i64 t.lk, .int .i64 t.cu, .int .i64 t.pv, .int .i64 t.nt, .int .i64 t.mx, .int .i64 t.ps, .int .i64 t.rn, b, .pointer (some ⟨p, 0, none⟩), .int .u8 k, .int .i32 v, .bool d] 89 (0, 0))

section
variable {w w' : World} {N p : Nat} {t : Th} {b : Value} {k v : Int} {d : Bool}
theorem TB.lt (h : TB w N p t b k v d) : N < w.heap.size := lt_of_block h
theorem TB.f (h : TB w N p t b k v d) (o : Nat) : w.frozen? ⟨N, o, none⟩ = false := by unfold TB at h; simp [World.frozen?, h]
theorem TB.at (h : TB w N p t b k v d) : w'.heap[N]? = w.heap[N]? → TB w' N p t b k v d := fun e => e.trans h
theorem TB.drewN (h : TB w N p t b k v d) (n : Nat) : TB (w.drewN n) N p t b k v d := h
theorem TB.c0 (h : TB w N p t b k v d) : w.cell? ⟨N, 0, none⟩ = some (.int .i64 t.ti) := by unfold TB at h; simp [World.cell?, h]
theorem TB.c1 (h : TB w N p t b k v d) : w.cell? ⟨N, 1, none⟩ = some (.int .i64 t.pc) := by unfold TB at h; simp [World.cell?, h]
theorem TB.c2 (h : TB w N p t b k v d) : w.cell? ⟨N, 2, none⟩ = some (.int .i64 t.rc) := by unfold TB at h; simp [World.cell?, h]
theorem TB.c3 (h : TB w N p t b k v d) : w.cell? ⟨N, 3, none⟩ = some (.int .i64 t.sq) := by unfold TB at h; simp [World.cell?, h]
theorem TB.c4 (h : TB w N p t b k v d) : w.cell? ⟨N, 4, none⟩ = some (.int .i64 t.wo) := by unfold TB at h; simp [World.cell?, h]
theorem TB.c5 (h : TB w N p t b k v d) : w.cell? ⟨N, 5, none⟩ = some (.int .i64 t.lk) := by unfold TB at h; simp [World.cell?, h]
theorem TB.c6 (h : TB w N p t b k v d) : w.cell? ⟨N, 6, none⟩ = some (.int .i64 t.cu) := by unfold TB at h; simp [World.cell?, h]
theorem TB.c7 (h : TB w N p t b k v d) : w.cell? ⟨N, 7, none⟩ = some (.int .i64 t.pv) := by unfold TB at h; simp [World.cell?, h]
theorem TB.c8 (h : TB w N p t b k v d) : w.cell? ⟨N, 8, none⟩ = some (.int .i64 t.nt) := by unfold TB at h; simp [World.cell?, h]
theorem TB.c9 (h : TB w N p t b k v d) : w.cell? ⟨N, 9, none⟩ = some (.int .i64 t.mx) := by unfold TB at h; simp [World.cell?, h]
theorem TB.c10 (h : TB w N p t b k v d) : w.cell? ⟨N, 10, none⟩ = some (.int .i64 t.ps) := by unfold TB at h; simp [World.cell?, h]
theorem TB.c11 (h : TB w N p t b k v d) : w.cell? ⟨N, 11, none⟩ = some (.int .i64 t.rn) := by unfold TB at h; simp [World.cell?, h]
theorem TB.c12 (h : TB w N p t b k v d) : w.cell? ⟨N, 12, none⟩ = some (b) := by unfold TB at h; simp [World.cell?, h]
theorem TB.c13 (h : TB w N p t b k v d) : w.cell? ⟨N, 13, none⟩ = some (.pointer (some ⟨p, 0, none⟩)) := by unfold TB at h; simp [World.cell?, h]
theorem TB.c14 (h : TB w N p t b k v d) : w.cell? ⟨N, 14, none⟩ = some (.int .u8 k) := by unfold TB at h; simp [World.cell?, h]
theorem TB.c15 (h : TB w N p t b k v d) : w.cell? ⟨N, 15, none⟩ = some (.int .i32 v) := by unfold TB at h; simp [World.cell?, h]
theorem TB.c16 (h : TB w N p t b k v d) : w.cell? ⟨N, 16, none⟩ = some (.bool d) := by unfold TB at h; simp [World.cell?, h]
theorem TB.s1 (h : TB w N p t b k v d) (x : Int) : TB (w.setCell ⟨N, 1, none⟩ (.int .i64 x)) N p { t with pc := x } b k v d := by unfold TB; rw [heap_setCell_same w N 1 _ _ _ h]; rfl
theorem TB.s2 (h : TB w N p t b k v d) (x : Int) : TB (w.setCell ⟨N, 2, none⟩ (.int .i64 x)) N p { t with rc := x } b k v d := by unfold TB; rw [heap_setCell_same w N 2 _ _ _ h]; rfl
theorem TB.s4 (h : TB w N p t b k v d) (x : Int) : TB (w.setCell ⟨N, 4, none⟩ (.int .i64 x)) N p { t with wo := x } b k v d := by unfold TB; rw [heap_setCell_same w N 4 _ _ _ h]; rfl
theorem TB.s5 (h : TB w N p t b k v d) (x : Int) : TB (w.setCell ⟨N, 5, none⟩ (.int .i64 x)) N p { t with lk := x } b k v d := by unfold TB; rw [heap_setCell_same w N 5 _ _ _ h]; rfl
theorem TB.s11 (h : TB w N p t b k v d) (x : Int) : TB (w.setCell ⟨N, 11, none⟩ (.int .i64 x)) N p { t with rn := x } b k v d := by unfold TB; rw [heap_setCell_same w N 11 _ _ _ h]; rfl
theorem TB.s14 (h : TB w N p t b k v d) (x : Int) : TB (w.setCell ⟨N, 14, none⟩ (.int .u8 x)) N p t b x v d := by unfold TB; rw [heap_setCell_same w N 14 _ _ _ h]; rfl
theorem TB.s15 (h : TB w N p t b k v d) (x : Int) : TB (w.setCell ⟨N, 15, none⟩ (.int .i32 x)) N p t b k x d := by unfold TB; rw [heap_setCell_same w N 15 _ _ _ h]; rfl
theorem TB.s16 (h : TB w N p t b k v d) (x : Bool) : TB (w.setCell ⟨N, 16, none⟩ (.bool x)) N p t b k v x := by unfold TB; rw [heap_setCell_same w N 16 _ _ _ h]; rfl
theorem TB.new (w : World) (p : Nat) (t : Th) (b : Value) (k v : Int) (d : Bool) : TB (w.alloc (.cells #[.int .i64 t.ti, .int .i64 t.pc, .int .i64 t.rc, .int .i64 t.sq, .int .i64 t.wo, .int .i64 t.lk, .int .i64 t.cu, .int .i64 t.pv, .int .i64 t.nt, .int .i64 t.mx, .int .i64 t.ps, .int .i64 t.rn, b, .pointer (some ⟨p, 0, none⟩), .int .u8 k, .int .i32 v, .bool d] 89)) w.heap.size p t b k v d := heap_alloc_new w _
end

/-- A memory's call behind what was done since w0. -/
theorem Did.comp {w0 w w' : World} {B p : Nat} {v0 v : Value} {size : Int} {zs : List Int} {st : Int} (h : Wrote p v0 w0 w) (l : Later v0 v w0) (d : Did B p v size zs st w w') : Did B p v0 size zs st w0 w' := by
  obtain ⟨v', m, wr, lt⟩ := d
  refine ⟨v', m, ⟨wr.os.trans h.os, wr.tape.trans h.tape, wr.output.trans h.output, Nat.le_trans h.size wr.size, fun k hk h1 h2 => ?_⟩, fun g hg => ?_⟩
  · refine (wr.block k (Nat.lt_of_lt_of_le hk h.size) h1 (fun e => ?_)).trans (h.block k hk h1 h2)
    rcases l k e with e2 | e2
    · exact h2 e2
    · omega
  · rcases lt g hg with e | e
    · exact l g e
    · exact .inr (Nat.le_trans h.size e)

/-- On the way since w0: the turn's block, and the memory. -/
structure TM (w0 : World) (B p N : Nat) (v0 : Value) (size : Int) (t : Th) (b : Value) (k v : Int) (d : Bool) (zs : List Int) (st : Int) (w : World) : Prop where
  box : TB w N p t b k v d
  did : Did B p v0 size zs st w0 w
  far : w0.heap.size ≤ N

section
variable {w0 w w' : World} {B p N : Nat} {v0 : Value} {size : Int} {t : Th} {b : Value} {k v : Int} {d : Bool} {zs zs' : List Int} {st st' : Int}
/-- A call on the memory alone. -/
theorem TM.next (h : TM w0 B p N v0 size t b k v d zs st w) {u : Value} (m : Mem w B p u size zs st) (wr : Wrote p v0 w0 w) (l : Later v0 u w0) (x : Did B p u size zs' st' w w') : TM w0 B p N v0 size t b k v d zs' st' w' :=
  ⟨x.kept m _ _ _ h.box (by decide) (by decide), x.comp wr l, h.far⟩

theorem TM.call {f : FuncId} {args : Array Value} {R : Ending → Prop} (h : TM w0 B p N v0 size t b k v d zs st w) (C : ∀ u, Mem w B p u size zs st → Calls Try.prog f args w fun e w' => R e ∧ Did B p u size zs' st' w w') :
    Calls Try.prog f args w fun e w' => R e ∧ TM w0 B p N v0 size t b k v d zs' st' w' := by
  obtain ⟨u, m, wr, l⟩ := h.did
  exact (C u m).mono fun e w' ⟨he, x⟩ => ⟨he, h.next m wr l x⟩

/-- A store into the turn's block. -/
theorem TM.put (h : TM w0 B p N v0 size t b k v d zs st w) {j : Nat} {x : Value} {t' : Th} {k' v' : Int} {d' : Bool} (hb : TB (w.setCell ⟨N, j, none⟩ x) N p t' b k' v' d') : TM w0 B p N v0 size t' b k' v' d' zs st (w.setCell ⟨N, j, none⟩ x) := by
  obtain ⟨u, m, wr, l⟩ := h.did
  refine ⟨hb, ⟨u, m.setOther (q := ⟨N, j, none⟩) ?_ ?_ _, wr.setCell (q := ⟨N, j, none⟩) (.inl h.far) _, l⟩, h.far⟩
  · rintro e
    have e : N = p := e
    subst e
    have e1 := m.block
    have e2 := h.box
    unfold TB at e2
    rw [e2] at e1
    simp at e1
  · intro e
    have e : u.ownBlock = some N := e
    rcases m.own.2 with ⟨rfl, _⟩ | ⟨g, cap, cur, rfl, _, hg, _⟩
    · simp [Value.ownBlock] at e
    · simp only [Value.ownBlock, Option.some.injEq] at e
      subst e
      have e2 := h.box
      unfold TB at e2
      rw [e2] at hg
      simp at hg
theorem TM.drewN (h : TM w0 B p N v0 size t b k v d zs st w) (n : Nat) : TM w0 B p N v0 size t b k v d zs st (w.drewN n) := by
  obtain ⟨u, m, wr, l⟩ := h.did
  exact ⟨h.box, ⟨u, m.drewN n, wr.drewN n, l⟩, h.far⟩
theorem TM.drew (h : TM w0 B p N v0 size t b k v d zs st w) : TM w0 B p N v0 size t b k v d zs st w.drew := by
  obtain ⟨u, m, wr, l⟩ := h.did
  exact ⟨h.box, ⟨u, m.drew, wr.drew, l⟩, h.far⟩
theorem TM.s1 (h : TM w0 B p N v0 size t b k v d zs st w) (x : Int) : TM w0 B p N v0 size { t with pc := x } b k v d zs st (w.setCell ⟨N, 1, none⟩ (.int .i64 x)) := h.put (h.box.s1 x)
theorem TM.s2 (h : TM w0 B p N v0 size t b k v d zs st w) (x : Int) : TM w0 B p N v0 size { t with rc := x } b k v d zs st (w.setCell ⟨N, 2, none⟩ (.int .i64 x)) := h.put (h.box.s2 x)
theorem TM.s4 (h : TM w0 B p N v0 size t b k v d zs st w) (x : Int) : TM w0 B p N v0 size { t with wo := x } b k v d zs st (w.setCell ⟨N, 4, none⟩ (.int .i64 x)) := h.put (h.box.s4 x)
theorem TM.s5 (h : TM w0 B p N v0 size t b k v d zs st w) (x : Int) : TM w0 B p N v0 size { t with lk := x } b k v d zs st (w.setCell ⟨N, 5, none⟩ (.int .i64 x)) := h.put (h.box.s5 x)
theorem TM.s11 (h : TM w0 B p N v0 size t b k v d zs st w) (x : Int) : TM w0 B p N v0 size { t with rn := x } b k v d zs st (w.setCell ⟨N, 11, none⟩ (.int .i64 x)) := h.put (h.box.s11 x)
theorem TM.s14 (h : TM w0 B p N v0 size t b k v d zs st w) (x : Int) : TM w0 B p N v0 size t b x v d zs st (w.setCell ⟨N, 14, none⟩ (.int .u8 x)) := h.put (h.box.s14 x)
theorem TM.s15 (h : TM w0 B p N v0 size t b k v d zs st w) (x : Int) : TM w0 B p N v0 size t b k x d zs st (w.setCell ⟨N, 15, none⟩ (.int .i32 x)) := h.put (h.box.s15 x)
theorem TM.s16 (h : TM w0 B p N v0 size t b k v d zs st w) (x : Bool) : TM w0 B p N v0 size t b k v x zs st (w.setCell ⟨N, 16, none⟩ (.bool x)) := h.put (h.box.s16 x)
theorem TM.load (h : TM w0 B p N v0 size t b k v d zs st w) (a : Int) (k0 : 0 ≤ st) (k1 : st < 1000000) :
    Calls Try.prog 26 #[.pointer (some ⟨p, 0, none⟩), .int .i64 a] w fun e w' => e = .returned (.tuple #[.int .i64 (ld zs a), .int .u16 (ce zs a)]) ∧ TM w0 B p N v0 size t b k v d zs (st + cn zs a) w' :=
  h.call fun _ m => loadD m a k0 k1
theorem TM.store (h : TM w0 B p N v0 size t b k v d zs st w) (a x : Int) (k0 : 0 ≤ st) (k1 : st < 1000000) :
    Calls Try.prog 19 #[.pointer (some ⟨p, 0, none⟩), .int .i64 a, .int .i64 x] w fun e w' => e = .returned (.int .u16 (ce zs a)) ∧ TM w0 B p N v0 size t b k v d (sto zs a x) (st + cn zs a) w' :=
  h.call fun _ m => storeD m a x k0 k1
theorem TM.swap (h : TM w0 B p N v0 size t b k v d zs st w) (a o x : Int) (k0 : 0 ≤ st) (k1 : st < 1000000) :
    Calls Try.prog 86 #[.pointer (some ⟨p, 0, none⟩), .int .i64 a, .int .i64 o, .int .i64 x] w fun e w' => e = .returned (.tuple #[.bool (swb zs a o), .int .u16 (ce zs a)]) ∧ TM w0 B p N v0 size t b k v d (swp zs a o x) (st + cn zs a) w' :=
  h.call fun _ m => swapD m a o x k0 k1
theorem TM.alloc (h : TM w0 B p N v0 size t b k v d zs st w) (k0 : 0 ≤ st) (k1 : st < 1000000) :
    Calls Try.prog 35 #[.pointer (some ⟨p, 0, none⟩), .int .i64 5] w fun e w' => e = .returned (.tuple #[.int .i64 (alA size zs), .int .u16 (alE size zs)]) ∧ TM w0 B p N v0 size t b k v d (alZ size zs) (st + alC size zs) w' :=
  h.call fun _ m => allocD m k0 k1
end

end Go.Proofs.Ythefdglocnalhaa.M2
