/-
  Entries of a script as five numbers, lists of bytes, of numbers, of operations and of entries that lie in memory; what reaperref03.Same and both Picks tell. Conditions: lists of at most a million.
-/
import Derived.Test.YtblkkafilabbkaaProg
import Derived.WalkKit
import Derived.ProofKit
import Derived.Below
import Derived.RowKit3
import Derived.WalkSmall
import Derived.OneCell
import Derived.OwnWalk
import Derived.Laws.AppendOwnNone
import Derived.Deep.RegionLaw
import Derived.Deep.QuietTactic
import Derived.Deep.Cut
import Derived.BigQuiet
import Derived.IntWalk
import Derived.Lib.Hide
import Derived.Laws.StructEq
import Derived.KernelRfl
namespace Go.Proofs.Ytblkkafilabbkaa
open Go.RowKit

/-- An entry: its kind, its thread, its operation's kind and value, its bits. -/
structure Ent where
  k : Int
  t : Int
  ok : Int
  ov : Int
  b : Int
deriving DecidableEq, Inhabited

def Ent.cells (e : Ent) : List Value := [.int .u8 e.k, .int .i64 e.t, .int .u8 e.ok, .int .i32 e.ov, .int .u8 e.b]

def EntAt (w : World) (b o : Nat) (e : Ent) : Prop :=
  w.cell? ⟨b, o, none⟩ = some (.int .u8 e.k) ∧ w.cell? ⟨b, o + 1, none⟩ = some (.int .i64 e.t) ∧ w.cell? ⟨b, o + 2, none⟩ = some (.int .u8 e.ok) ∧
    w.cell? ⟨b, o + 3, none⟩ = some (.int .i32 e.ov) ∧ w.cell? ⟨b, o + 4, none⟩ = some (.int .u8 e.b)

/-- A slice's elements are these entries. -/
def Ents (w : World) (ao : Option Addr) (len : Nat) (es : List Ent) : Prop :=
  es.length = len ∧ (0 < len → ∃ b off, ao = some ⟨b, off, none⟩ ∧ b < w.heap.size ∧ ∀ i, i < len → EntAt w b (off + i * 5) (es.getD i default))

/-- A slice's cells are these numbers. -/
def Reads (k : IntKind) (w : World) (ao : Option Addr) (len : Nat) (zs : List Int) : Prop :=
  zs.length = len ∧ (0 < len → ∃ b off, ao = some ⟨b, off, none⟩ ∧ b < w.heap.size ∧ ∀ i, i < len → w.cell? ⟨b, off + i, none⟩ = some (.int k (zs.getD i 0)))

theorem Reads.keep {k : IntKind} {w w' : World} {ao : Option Addr} {len : Nat} {zs : List Int} (h : Reads k w ao len zs) (hb : Below w.heap.size w w') : Reads k w' ao len zs := by
  refine ⟨h.1, fun hp => ?_⟩
  obtain ⟨b, off, e, hl, hc⟩ := h.2 hp
  exact ⟨b, off, e, Nat.lt_of_lt_of_le hl hb.size, fun i hi => (hb.cell (p := ⟨b, off + i, none⟩) hl).trans (hc i hi)⟩

theorem EntAt.keep {w w' : World} {b o : Nat} {e : Ent} (h : EntAt w b o e) (hl : b < w.heap.size) (hb : Below w.heap.size w w') : EntAt w' b o e :=
  ⟨(hb.cell (p := ⟨b, _, none⟩) hl).trans h.1, (hb.cell (p := ⟨b, _, none⟩) hl).trans h.2.1, (hb.cell (p := ⟨b, _, none⟩) hl).trans h.2.2.1, (hb.cell (p := ⟨b, _, none⟩) hl).trans h.2.2.2.1, (hb.cell (p := ⟨b, _, none⟩) hl).trans h.2.2.2.2⟩

theorem Ents.keep {w w' : World} {ao : Option Addr} {len : Nat} {es : List Ent} (h : Ents w ao len es) (hb : Below w.heap.size w w') : Ents w' ao len es := by
  refine ⟨h.1, fun hp => ?_⟩
  obtain ⟨b, off, e, hl, hc⟩ := h.2 hp
  exact ⟨b, off, e, Nat.lt_of_lt_of_le hl hb.size, fun i hi => (hc i hi).keep hl hb⟩

/-- Are two entries one? -/
def entEq (a1 a2 a3 a4 a5 b1 b2 b3 b4 b5 : Int) : Bool := decide ((⟨a1, a2, a3, a4, a5⟩ : Ent) = ⟨b1, b2, b3, b4, b5⟩)

theorem entEq_of (x y : Ent) : entEq x.k x.t x.ok x.ov x.b y.k y.t y.ok y.ov y.b = decide (x = y) := rfl

theorem eqOp (a b c d : Int) (n : Nat) (hn : 10 ≤ n) (w : World) : (Op.equalIn n 44 (.agg #[.int .u8 a, .int .i32 b]) (.agg #[.int .u8 c, .int .i32 d])).run Try.prog w = .ok (a == c && b == d) w := by
  obtain ⟨m, rfl⟩ : ∃ m, n = m + 1 + 1 := ⟨n - 2, by omega⟩
  have hS : Try.prog.underlying 44 = some (.struct (Try.prog.fieldsOf 44)) := by kernel_rfl
  have hp : Try.prog.stoodInHeld 44 = false := by kernel_rfl
  rw [run_equalIn_agg w (m + 1) 44 _ _ hS hp]
  have u5 := Try.underlying5
  have u21 := Try.underlying21
  have a5 := Try.isAgg5
  have z5 := Try.sizeOf5
  have a21 := Try.isAgg21
  have z21 := Try.sizeOf21
  simp only [Program.fieldsOf, Try.underlying44]
  go_simp
  by_cases h1 : a = c <;> by_cases h2 : b = d <;> simp [h1, h2]

theorem eqEnt (a1 a2 a3 a4 a5 b1 b2 b3 b4 b5 : Int) (w : World) :
    (Op.equalIn 10000 46 (.agg #[.int .u8 a1, .int .i64 a2, .int .u8 a3, .int .i32 a4, .int .u8 a5]) (.agg #[.int .u8 b1, .int .i64 b2, .int .u8 b3, .int .i32 b4, .int .u8 b5])).run Try.prog w = .ok (entEq a1 a2 a3 a4 a5 b1 b2 b3 b4 b5) w := by
  have hS : Try.prog.underlying 46 = some (.struct (Try.prog.fieldsOf 46)) := by kernel_rfl
  have hp : Try.prog.stoodInHeld 46 = false := by kernel_rfl
  rw [show (10000 : Nat) = 9998 + 1 + 1 from rfl, run_equalIn_agg w (9998 + 1) 46 _ _ hS hp]
  have u5 := Try.underlying5
  have u3 := Try.underlying3
  have a5' := Try.isAgg5
  have z5 := Try.sizeOf5
  have a3' := Try.isAgg3
  have z3 := Try.sizeOf3
  have a44 := Try.isAgg44
  have z44 := Try.sizeOf44
  have hq := fun w => eqOp a3 a4 b3 b4 9999 (by omega) w
  simp only [Program.fieldsOf, Try.underlying46]
  go_simp
  by_cases h1 : a1 = b1 <;> by_cases h2 : a2 = b2 <;> by_cases h3 : a3 = b3 <;> by_cases h4 : a4 = b4 <;> by_cases h5 : a5 = b5 <;> simp [h1, h2, h3, h4, h5, entEq]

/-- The first k of two lists are the same. -/
def Alike (xs ys : List Ent) (k : Nat) : Prop := ∀ j, j < k → xs.getD j default = ys.getD j default
theorem Alike.none (xs ys : List Ent) : Alike xs ys 0 := fun j h => absurd h (Nat.not_lt_zero j)
theorem Alike.snoc {xs ys : List Ent} {k : Nat} (h : Alike xs ys k) (he : xs.getD k default = ys.getD k default) : Alike xs ys (k + 1) := fun j hj => by
  rcases Nat.lt_or_ge j k with h1 | h1
  · exact h j h1
  · obtain rfl : j = k := by omega
    exact he
theorem Alike.all {xs ys : List Ent} {k : Nat} (h : Alike xs ys k) (hx : xs.length = k) (hy : ys.length = k) : xs = ys := by
  apply List.ext_getElem (by omega)
  intro i h1 h2
  have := h i (by omega)
  simpa [List.getD, h1, h2] using this

set_option maxHeartbeats 1600000 in
theorem sameAny (w : World) (a b : Option Addr) (n m c d : Nat) (xs ys : List Ent) (ha : Ents w a n xs) (hb : Ents w b m ys) (hl : n ≤ 1000000) (hm : m ≤ 1000000) :
    Calls Try.prog 12 #[.slice a n c, .slice b m d] w fun e w' => e = .returned (.bool (decide (xs = ys))) ∧ Below w.heap.size w w' := by
  have HA := Lib.hid ha
  have HB := Lib.hid hb
  clear ha hb
  have hq := @eqEnt
  by_cases hnm : n = m
  · subst hnm
    go_enter Try.func12, Try.ntmps12
    go_wp2
    go_loopw [5] (fun i wr => ∃ k : Nat, k ≤ n ∧ i = .int .i64 k ∧ Alike xs ys k ∧ Below w.heap.size w wr) (fun i _ => n - (intOf i).toNat)
    case atStart => exact ⟨0, Nat.zero_le _, rfl, Alike.none _ _, Below.refl _ _⟩
    case round =>
      obtain ⟨k, hk, rfl, hall, hbe⟩ := hrel
      have HE := Lib.hid hbe
      have HL := Lib.hid hall
      clear hall
      by_cases hlt : k < n
      · obtain ⟨b1, o1, rfl, l1, h1⟩ := (HA.out.keep hbe).2 (by omega)
        obtain ⟨b2, o2, rfl, l2, h2⟩ := (HB.out.keep hbe).2 (by omega)
        obtain ⟨c1, c2, c3, c4, c5⟩ := h1 k hlt
        obtain ⟨d1, d2, d3, d4, d5⟩ := h2 k hlt
        clear h1 h2 hbe
        by_cases he : xs.getD k default = ys.getD k default
        · have HQ := Lib.hid he
          have hd : entEq (xs.getD k default).k (xs.getD k default).t (xs.getD k default).ok (xs.getD k default).ov (xs.getD k default).b (ys.getD k default).k (ys.getD k default).t (ys.getD k default).ok (ys.getD k default).ov (ys.getD k default).b = true := by
            rw [entEq_of]; exact decide_eq_true he
          clear he
          have i0 : (k : Int) < n := by omega
          have HL2 := Lib.hid (HL.out.snoc HQ.out)
          clear HL HQ
          generalize xs.getD k default = e1 at *
          generalize ys.getD k default = e2 at *
          go_wp2
          go_quiet (fail)
          go_wp2
          go_roundw
          case rel => exact ⟨k + 1, by omega, by go_num, HL2.out, below_drewN HE.out _⟩
          case measure => simp [intOf]; omega
        · have HQ := Lib.hid he
          have hd : entEq (xs.getD k default).k (xs.getD k default).t (xs.getD k default).ok (xs.getD k default).ov (xs.getD k default).b (ys.getD k default).k (ys.getD k default).t (ys.getD k default).ok (ys.getD k default).ov (ys.getD k default).b = false := by
            rw [entEq_of]; exact decide_eq_false he
          clear he
          have i0 : (k : Int) < n := by omega
          have HN := Lib.hid (show decide (xs = ys) = false from decide_eq_false (fun e => HQ.out (by rw [e])))
          generalize xs.getD k default = e1 at *
          generalize ys.getD k default = e2 at *
          go_wp2
          go_quiet (fail)
          go_wp2
          go_ret
          exact ⟨by rw [HN.out]; rfl, below_drewN HE.out _⟩
      · clear hbe
        obtain rfl : k = n := by omega
        go_wp2
        go_ret
        exact ⟨by rw [decide_eq_true (HL.out.all HA.out.1 HB.out.1)]; rfl, HE.out⟩
  · have hd : ((n : Int) != m) = true := by simp; omega
    have HN := Lib.hid (show decide (xs = ys) = false from decide_eq_false (fun e => hnm (by rw [← HA.out.1, ← HB.out.1, e])))
    clear hnm
    go_enter Try.func12, Try.ntmps12
    go_wp2
    go_ret
    exact ⟨by rw [HN.out]; rfl, Below.refl _ _⟩

/-- How many of entries pick. -/
def picksN (es : List Ent) : Nat := es.countP fun e => decide (e.k = 2)
theorem take_next (es : List Ent) (k : Nat) (h : k < es.length) : es.take (k + 1) = es.take k ++ [es.getD k default] := by
  rw [List.take_succ_eq_append_getElem h]; simp [List.getD, h]
theorem picksN_le (es : List Ent) : picksN es ≤ es.length := List.countP_le_length
theorem picks_yes (es : List Ent) (k : Nat) (h : k < es.length) (he : (es.getD k default).k = 2) : picksN (es.take (k + 1)) = picksN (es.take k) + 1 := by
  rw [take_next es k h, picksN, List.countP_append]; simp only [List.getD] at he ⊢; simp [picksN, he]
theorem picks_no (es : List Ent) (k : Nat) (h : k < es.length) (he : (es.getD k default).k ≠ 2) : picksN (es.take (k + 1)) = picksN (es.take k) := by
  rw [take_next es k h, picksN, List.countP_append]; simp only [List.getD] at he ⊢; simp [picksN, he]

set_option maxHeartbeats 1600000 in
theorem picksAny (w : World) (a : Option Addr) (n c : Nat) (xs : List Ent) (ha : Ents w a n xs) (hl : n ≤ 1000000) :
    Calls Try.prog 16 #[.slice a n c] w fun e w' => e = .returned (.int .i64 (picksN xs)) ∧ Below w.heap.size w w' := by
  have HA := Lib.hid ha
  clear ha
  go_enter Try.func16, Try.ntmps16
  go_wp2
  go_loopw [3, 8] (fun s i wr => ∃ k : Nat, k ≤ n ∧ i = .int .i64 k ∧ s = .int .i64 (picksN (xs.take k)) ∧ Below w.heap.size w wr) (fun _ i _ => n - (intOf i).toNat)
  case atStart => exact ⟨0, Nat.zero_le _, rfl, by simp [picksN], Below.refl _ _⟩
  case round =>
    obtain ⟨k, hk, rfl, rfl, hbe⟩ := hrel
    have HE := Lib.hid hbe
    have hp : picksN (xs.take k) ≤ 1000000 := Nat.le_trans (picksN_le _) (by simp; omega)
    by_cases hlt : k < n
    · obtain ⟨b1, o1, rfl, l1, h1⟩ := (HA.out.keep hbe).2 (by omega)
      obtain ⟨c1, c2, c3, c4, c5⟩ := h1 k hlt
      have hkl : k < xs.length := by rw [HA.out.1]; exact hlt
      clear h1 hbe
      have i0 : (k : Int) < n := by omega
      by_cases he : (xs.getD k default).k = 2
      · have HP := Lib.hid (picks_yes xs k hkl he)
        rw [he] at c1
        clear he hkl
        generalize xs.getD k default = e1 at *
        generalize picksN (xs.take k) = q at *
        go_wp2
        go_roundw
        case rel => exact ⟨k + 1, by omega, by go_num, by rw [HP.out]; go_num, HE.out.alloc HE.out.size _⟩
        case measure => simp [intOf]; omega
      · have HP := Lib.hid (picks_no xs k hkl he)
        have hd := beq_eq_false_iff_ne.2 he
        clear he hkl
        generalize xs.getD k default = e1 at *
        generalize picksN (xs.take k) = q at *
        go_wp2
        go_roundw
        case rel => exact ⟨k + 1, by omega, by go_num, by rw [HP.out], HE.out.alloc HE.out.size _⟩
        case measure => simp [intOf]; omega
    · clear hbe
      obtain rfl : k = n := by omega
      go_wp2
      go_ret
      exact ⟨by rw [List.take_of_length_le (by rw [HA.out.1]; exact Nat.le_refl _)]; rfl, HE.out⟩

set_option maxHeartbeats 1600000 in
theorem refPicks (w : World) (a : Option Addr) (n c : Nat) (xs : List Ent) (ha : Ents w a n xs) (hl : n ≤ 1000000) :
    Calls Try.prog 17 #[.slice a n c] w fun e w' => e = .returned (.int .i64 (picksN xs)) ∧ Below w.heap.size w w' := by
  have HA := Lib.hid ha
  clear ha
  go_enter Try.func17, Try.ntmps17
  go_wp2
  go_loopw [3, 4] (fun s i wr => ∃ k : Nat, k ≤ n ∧ i = .int .i64 k ∧ s = .int .i64 (picksN (xs.take k)) ∧ Below w.heap.size w wr) (fun _ i _ => n - (intOf i).toNat)
  case atStart => exact ⟨0, Nat.zero_le _, rfl, by simp [picksN], Below.refl _ _⟩
  case round =>
    obtain ⟨k, hk, rfl, rfl, hbe⟩ := hrel
    have HE := Lib.hid hbe
    have hp : picksN (xs.take k) ≤ 1000000 := Nat.le_trans (picksN_le _) (by simp; omega)
    by_cases hlt : k < n
    · obtain ⟨b1, o1, rfl, l1, h1⟩ := (HA.out.keep hbe).2 (by omega)
      obtain ⟨c1, c2, c3, c4, c5⟩ := h1 k hlt
      have hkl : k < xs.length := by rw [HA.out.1]; exact hlt
      clear h1 hbe
      have i0 : (k : Int) < n := by omega
      by_cases he : (xs.getD k default).k = 2
      · have HP := Lib.hid (picks_yes xs k hkl he)
        rw [he] at c1
        clear he hkl
        generalize xs.getD k default = e1 at *
        generalize picksN (xs.take k) = q at *
        go_wp2
        go_roundw
        case rel => exact ⟨k + 1, by omega, by go_num, by rw [HP.out]; go_num, HE.out⟩
        case measure => simp [intOf]; omega
      · have HP := Lib.hid (picks_no xs k hkl he)
        have hd := beq_eq_false_iff_ne.2 he
        clear he hkl
        generalize xs.getD k default = e1 at *
        generalize picksN (xs.take k) = q at *
        go_wp2
        go_roundw
        case rel => exact ⟨k + 1, by omega, by go_num, by rw [HP.out], HE.out⟩
        case measure => simp [intOf]; omega
    · clear hbe
      obtain rfl : k = n := by omega
      go_wp2
      go_ret
      exact ⟨by rw [List.take_of_length_le (by rw [HA.out.1]; exact Nat.le_refl _)]; rfl, HE.out⟩

end Go.Proofs.Ytblkkafilabbkaa
