/-
  What a call that only makes new memory leaves behind: 'Fresh w w2' says that every block of w, and every mark, is as it was. No condition; no Go function is looked at here. Plain arithmetic of words: the word of a kind and a value, and the way back; no Go function is looked at here. Contracts of package word's functions: Op and Res answer the word, OfOp and OfRes the pair or nothing, Asks whether a number is above 0; each leaves all old memory as it was. Contracts of the document's own answers for words (package reaperref01): OfOp and OfRes answer the pair or nothing; each leaves all old memory as it was.
-/
import Derived.Test.YthefdglocnalhaaArg13m
import Derived.WalkKit
import Derived.ProofKit
import Derived.Below
import Derived.RowKit3
import Derived.WalkSmall
import Derived.IntWalk
import Derived.Deep.QuietTactic
import Derived.BigQuiet
import Derived.Lib.Hide
namespace Go.Proofs.Ythefdglocnalhaa.M2
open Go.RowKit

/-- The second world has what the first one had, and at most new blocks of cells. -/
structure Fresh (w w' : World) : Prop where
  below : Below w.heap.size w w'
  marks : ∀ a, w'.frozen? a = w.frozen? a

theorem Fresh.refl (w : World) : Fresh w w := ⟨Below.refl _ _, fun _ => rfl⟩
theorem Fresh.trans {a b c : World} (h : Fresh a b) (k : Fresh b c) : Fresh a c :=
  ⟨h.below.trans (k.below.mono h.below.size), fun x => (k.marks x).trans (h.marks x)⟩
theorem Fresh.alloc {a w : World} (h : Fresh a w) (c : Array Value) (t : TypeId) : Fresh a (w.alloc (.cells c t)) :=
  ⟨h.below.alloc h.below.size _, fun x => (frozen?_alloc_cells w c t x).trans (h.marks x)⟩
theorem Fresh.drew {a w : World} (h : Fresh a w) : Fresh a w.drew := ⟨h.below.drew, h.marks⟩
theorem Fresh.drewN {a w : World} (h : Fresh a w) (n : Nat) : Fresh a (w.drewN n) := ⟨below_drewN h.below n, h.marks⟩
theorem Fresh.setCell {a w : World} (h : Fresh a w) {p : Addr} (hp : a.heap.size ≤ p.block) (v : Value) : Fresh a (w.setCell p v) :=
  ⟨h.below.setCell hp v, fun x => (World.frozen?_setCell w p x v).trans (h.marks x)⟩
theorem Fresh.size {w w' : World} (h : Fresh w w') : w.heap.size ≤ w'.heap.size := h.below.size
theorem Fresh.cell {w w' : World} (h : Fresh w w') : ∀ b o, b < w.heap.size → w'.cell? ⟨b, o, none⟩ = w.cell? ⟨b, o, none⟩ :=
  fun b o hb => h.below.cell (p := ⟨b, o, none⟩) hb
theorem Fresh.keep {w w' : World} (h : Fresh w w') {a : Addr} {v : Value} (hc : w.cell? a = some v) : w'.cell? a = some v :=
  (h.below.cell (World.block_lt_of_cell? w _ hc)).trans hc
theorem Fresh.frame {W w' : World} (h : Fresh W w') (may : MemPlace → Prop) : W.keptBut w' may := h.below.frame may

theorem two_cells (w : World) (a b c d : Value) (t u : TypeId) : ∀ W, (w.alloc (.cells #[a, b] t)).alloc (.cells #[c, d] u) = W →
    W.cell? ⟨w.heap.size, 0, none⟩ = some a ∧ W.cell? ⟨w.heap.size, 1, none⟩ = some b ∧ W.cell? ⟨w.heap.size + 1, 0, none⟩ = some c ∧ W.cell? ⟨w.heap.size + 1, 1, none⟩ = some d ∧ Fresh w W := by
  rintro W rfl
  refine ⟨?_, ?_, ?_, ?_, ((Fresh.refl w).alloc _ _).alloc _ _⟩
  all_goals go_simp

end Go.Proofs.Ythefdglocnalhaa.M2
namespace Go.Proofs.Ythefdglocnalhaa.M2

/-- The word of a kind and a value. -/
def wd (k v : Int) : Int := 256 * (v + 2147483648) + k + 1
/-- A word's kind, and its value. -/
def kd (n : Int) : Int := (n - 1) % 256
def vl (n : Int) : Int := (n - 1) / 256 - 2147483648

theorem wd_bd {k v : Int} (k0 : 0 ≤ k) (k1 : k ≤ 255) (v0 : -2147483648 ≤ v) (v1 : v ≤ 2147483647) : 1 ≤ wd k v ∧ wd k v ≤ 1099511627776 := by
  unfold wd; omega
theorem kd_wd {k v : Int} (k0 : 0 ≤ k) (k1 : k ≤ 255) : kd (wd k v) = k := by unfold kd wd; omega
theorem vl_wd {k v : Int} (k0 : 0 ≤ k) (k1 : k ≤ 255) : vl (wd k v) = v := by unfold vl wd; omega
theorem wd_back (n : Int) : wd (kd n) (vl n) = n := by unfold wd kd vl; omega
theorem kd_bd (n : Int) : 0 ≤ kd n ∧ kd n ≤ 255 := by unfold kd; omega
theorem vl_bd {n : Int} (h0 : 1 ≤ n) (h1 : n ≤ 1099511627776) : -2147483648 ≤ vl n ∧ vl n ≤ 2147483647 := by unfold vl; omega

/-- The low forty bits of a number are from 0 to 2^40 - 1. -/
theorem mask40 (a : Int) : 0 ≤ bits .and .i64 a 1099511627775 ∧ bits .and .i64 a 1099511627775 ≤ 1099511627775 := by
  have e : bits .and .i64 a 1099511627775 = IntKind.i64.wrap ((BitVec.ofInt 64 a &&& BitVec.ofInt 64 1099511627775).toNat : Nat) := rfl
  have h : (BitVec.ofInt 64 a &&& BitVec.ofInt 64 1099511627775).toNat ≤ 1099511627775 := by
    rw [BitVec.toNat_and]
    exact Nat.le_trans Nat.and_le_right (by decide)
  rw [e, IntWalk.i64_in _ (by omega)]
  omega

end Go.Proofs.Ythefdglocnalhaa.M2
namespace Go.Proofs.Ythefdglocnalhaa.M2
open Go.RowKit

set_option maxRecDepth 100000 in
set_option maxHeartbeats 400000 in
theorem pairOp (k v : Int) (w : World) : Calls Try.prog 59 #[.agg #[.int .u8 k, .int .i32 v]] w fun e w' => e = .returned (.tuple #[.int .u8 k, .int .i32 v]) ∧ Fresh w w' := by
  go_enter Try.func59, Try.ntmps59
  go_wp2
  go_quiet (fail)
  go_wp2
  go_ret2
  exact ⟨rfl, ((Fresh.refl _).alloc _ _).drewN _⟩

set_option maxRecDepth 100000 in
set_option maxHeartbeats 400000 in
theorem packOp (k v : Int) (k0 : 0 ≤ k) (k1 : k ≤ 255) (v0 : -2147483648 ≤ v) (v1 : v ≤ 2147483647) (w : World) :
    Calls Try.prog 58 #[.agg #[.int .u8 k, .int .i32 v], .func (.func 59) #[] #[]] w fun e w' => e = .returned (.int .i64 (wd k v)) ∧ Fresh w w' := by
  go_enter Try.func58, Try.ntmps58
  go_wp2_with fail
  refine (pairOp _ _ _).mono ?_
  rintro e w' ⟨rfl, hf⟩
  have F := ((Fresh.refl w).alloc #[.int .u8 k, .int .i32 v] 27).trans hf
  clear hf
  go_wp2
  go_ret
  exact ⟨rfl, F⟩

set_option maxRecDepth 100000 in
set_option maxHeartbeats 400000 in
theorem wordOp (k v : Int) (k0 : 0 ≤ k) (k1 : k ≤ 255) (v0 : -2147483648 ≤ v) (v1 : v ≤ 2147483647) (w : World) :
    Calls Try.prog 39 #[.agg #[.int .u8 k, .int .i32 v]] w fun e w' => e = .returned (.int .i64 (wd k v)) ∧ Fresh w w' := by
  go_enter Try.func39, Try.ntmps39
  go_wp2_with fail
  refine (packOp _ _ k0 k1 v0 v1 _).mono ?_
  rintro e w' ⟨rfl, hf⟩
  have F := ((Fresh.refl w).alloc #[.int .u8 k, .int .i32 v] 27).trans hf
  clear hf
  go_wp2
  go_ret
  exact ⟨rfl, F⟩

set_option maxRecDepth 100000 in
set_option maxHeartbeats 400000 in
theorem refOp (k v : Int) (k0 : 0 ≤ k) (k1 : k ≤ 255) (v0 : -2147483648 ≤ v) (v1 : v ≤ 2147483647) (w : World) :
    Calls Try.prog 18 #[.agg #[.int .u8 k, .int .i32 v]] w fun e w' => e = .returned (.int .i64 (wd k v)) ∧ Fresh w w' := by
  go_enter Try.func18, Try.ntmps18
  go_wp2
  go_ret
  exact ⟨rfl, (Fresh.refl _).alloc _ _⟩

set_option maxRecDepth 100000 in
set_option maxHeartbeats 400000 in
theorem makeRes (k v : Int) (w : World) : Calls Try.prog 89 #[.int .u8 k, .int .i32 v] w fun e w' => e = .returned (.agg #[.int .u8 k, .int .i32 v]) ∧ Fresh w w' := by
  go_enter Try.func89, Try.ntmps89
  go_wp2
  exact bodyPost_ret (v := .agg #[.int .u8 k, .int .i32 v]) (by simp [results, Try.results89, go_sem]) rfl ⟨rfl, (Fresh.refl _).alloc _ _⟩

set_option maxRecDepth 100000 in
set_option maxHeartbeats 400000 in
theorem unRes (n : Int) (h0 : 1 ≤ n) (h1 : n ≤ 1099511627776) (w : World) :
    Calls Try.prog 88 #[.int .i64 n, .func (.func 89) #[] #[]] w fun e w' => e = .returned (.tuple #[.agg #[.int .u8 (kd n), .int .i32 (vl n)], .bool true]) ∧ Fresh w w' := by
  go_enter Try.func88, Try.ntmps88
  go_wp2_with fail
  refine (makeRes _ _ _).mono ?_
  rintro e w' ⟨rfl, hf⟩
  have hs : w.heap.size < w'.heap.size := by have := hf.size; simp at this; omega
  have hc := hf.cell
  have hm : ∀ b o, w'.frozen? ⟨b, o, none⟩ = (w.alloc (.cells #[.int .u8 0, .int .i32 0] 49)).frozen? ⟨b, o, none⟩ := fun b o => hf.marks _
  have F := Lib.hid (((Fresh.refl w).alloc #[.int .u8 0, .int .i32 0] 49).trans hf)
  clear hf
  go_wp2
  exact bodyPost_ret (v := .tuple #[.agg #[.int .u8 (kd n), .int .i32 (vl n)], .bool true]) (by simp [results, Try.results88, go_sem, hc, kd, vl]) rfl ⟨rfl, (F.out.setCell (by simp) _).setCell (by simp) _⟩

set_option maxRecDepth 100000 in
set_option maxHeartbeats 400000 in
theorem unResNo (n : Int) (h : n < 1 ∨ 1099511627776 < n) (w : World) :
    Calls Try.prog 88 #[.int .i64 n, .func (.func 89) #[] #[]] w fun e w' => e = .returned (.tuple #[.agg #[.int .u8 0, .int .i32 0], .bool false]) ∧ Fresh w w' := by
  rcases h with h | h
  · go_enter Try.func88, Try.ntmps88
    go_wp2
    exact bodyPost_ret (v := .tuple #[.agg #[.int .u8 0, .int .i32 0], .bool false]) (by simp [results, Try.results88, go_sem]) rfl ⟨rfl, ((Fresh.refl _).alloc _ _).alloc _ _⟩
  · have h' : ¬ n < 1 := by omega
    go_enter Try.func88, Try.ntmps88
    go_wp2
    exact bodyPost_ret (v := .tuple #[.agg #[.int .u8 0, .int .i32 0], .bool false]) (by simp [results, Try.results88, go_sem]) rfl ⟨rfl, ((Fresh.refl _).alloc _ _).alloc _ _⟩

set_option maxRecDepth 100000 in
set_option maxHeartbeats 400000 in
theorem ofRes (n : Int) (h0 : 1 ≤ n) (h1 : n ≤ 1099511627776) (w : World) :
    Calls Try.prog 84 #[.int .i64 n] w fun e w' => e = .returned (.tuple #[.agg #[.int .u8 (kd n), .int .i32 (vl n)], .bool true]) ∧ Fresh w w' := by
  go_enter Try.func84, Try.ntmps84
  go_wp2_with fail
  refine (unRes _ h0 h1 _).mono ?_
  rintro e w' ⟨rfl, hf⟩
  have hs : w.heap.size < w'.heap.size := by have := hf.size; simp at this; omega
  have hc := hf.cell
  have hm : ∀ b o, w'.frozen? ⟨b, o, none⟩ = (w.alloc (.cells #[.int .u8 0, .int .i32 0] 49)).frozen? ⟨b, o, none⟩ := fun b o => hf.marks _
  have F := Lib.hid (((Fresh.refl w).alloc #[.int .u8 0, .int .i32 0] 49).trans hf)
  clear hf
  go_wp2
  exact bodyPost_ret (v := .tuple #[.agg #[.int .u8 (kd n), .int .i32 (vl n)], .bool true]) (by simp [results, Try.results84, go_sem, hc]) rfl ⟨rfl, (F.out.setCell (by simp) _).setCell (by simp) _⟩

set_option maxRecDepth 100000 in
set_option maxHeartbeats 400000 in
theorem ofResNo (n : Int) (h : n < 1 ∨ 1099511627776 < n) (w : World) :
    Calls Try.prog 84 #[.int .i64 n] w fun e w' => e = .returned (.tuple #[.agg #[.int .u8 0, .int .i32 0], .bool false]) ∧ Fresh w w' := by
  have H := Lib.hid h
  clear h
  go_enter Try.func84, Try.ntmps84
  go_wp2_with fail
  refine (unResNo _ H.out _).mono ?_
  rintro e w' ⟨rfl, hf⟩
  have hs : w.heap.size < w'.heap.size := by have := hf.size; simp at this; omega
  have hc := hf.cell
  have hm : ∀ b o, w'.frozen? ⟨b, o, none⟩ = (w.alloc (.cells #[.int .u8 0, .int .i32 0] 49)).frozen? ⟨b, o, none⟩ := fun b o => hf.marks _
  have F := Lib.hid (((Fresh.refl w).alloc #[.int .u8 0, .int .i32 0] 49).trans hf)
  clear hf
  go_wp2
  exact bodyPost_ret (v := .tuple #[.agg #[.int .u8 0, .int .i32 0], .bool false]) (by simp [results, Try.results84, go_sem, hc]) rfl ⟨rfl, (F.out.setCell (by simp) _).setCell (by simp) _⟩

set_option maxRecDepth 100000 in
set_option maxHeartbeats 400000 in
theorem refRes (k v : Int) (k0 : 0 ≤ k) (k1 : k ≤ 255) (v0 : -2147483648 ≤ v) (v1 : v ≤ 2147483647) (w : World) :
    Calls Try.prog 28 #[.agg #[.int .u8 k, .int .i32 v]] w fun e w' => e = .returned (.int .i64 (wd k v)) ∧ Fresh w w' := by
  go_enter Try.func28, Try.ntmps28
  go_wp2
  go_ret
  exact ⟨rfl, (Fresh.refl _).alloc _ _⟩

end Go.Proofs.Ythefdglocnalhaa.M2
namespace Go.Proofs.Ythefdglocnalhaa.M2
open Go.RowKit

set_option maxRecDepth 100000 in
set_option maxHeartbeats 400000 in
theorem refOfOp (n : Int) (h0 : 1 ≤ n) (h1 : n ≤ 1099511627776) (w : World) :
    Calls Try.prog 77 #[.int .i64 n] w fun e w' => e = .returned (.tuple #[.agg #[.int .u8 (kd n), .int .i32 (vl n)], .bool true]) ∧ Fresh w w' := by
  go_enter Try.func77, Try.ntmps77
  go_wp2
  exact bodyPost_ret (v := .tuple #[.agg #[.int .u8 (kd n), .int .i32 (vl n)], .bool true]) (by simp [results, Try.results77, go_sem, kd, vl]) rfl ⟨rfl, (Fresh.refl _).alloc _ _⟩

set_option maxRecDepth 100000 in
set_option maxHeartbeats 400000 in
theorem refOfOpNo (n : Int) (h : n < 1 ∨ 1099511627776 < n) (w : World) :
    Calls Try.prog 77 #[.int .i64 n] w fun e w' => e = .returned (.tuple #[.agg #[.int .u8 0, .int .i32 0], .bool false]) ∧ Fresh w w' := by
  rcases h with h | h
  · go_enter Try.func77, Try.ntmps77
    go_wp2
    exact bodyPost_ret (v := .tuple #[.agg #[.int .u8 0, .int .i32 0], .bool false]) (by simp [results, Try.results77, go_sem]) rfl ⟨rfl, (Fresh.refl _).alloc _ _⟩
  · have h' : ¬ n < 1 := by omega
    go_enter Try.func77, Try.ntmps77
    go_wp2
    exact bodyPost_ret (v := .tuple #[.agg #[.int .u8 0, .int .i32 0], .bool false]) (by simp [results, Try.results77, go_sem]) rfl ⟨rfl, (Fresh.refl _).alloc _ _⟩

set_option maxRecDepth 100000 in
set_option maxHeartbeats 400000 in
theorem refOfRes (n : Int) (h0 : 1 ≤ n) (h1 : n ≤ 1099511627776) (w : World) :
    Calls Try.prog 51 #[.int .i64 n] w fun e w' => e = .returned (.tuple #[.agg #[.int .u8 (kd n), .int .i32 (vl n)], .bool true]) ∧ Fresh w w' := by
  go_enter Try.func51, Try.ntmps51
  go_wp2_with fail
  refine (refOfOp _ h0 h1 _).mono ?_
  rintro e w' ⟨rfl, hf⟩
  have hs : w.heap.size < w'.heap.size := by have := hf.size; simp at this; omega
  have hc := hf.cell
  have hm : ∀ b o, w'.frozen? ⟨b, o, none⟩ = (w.alloc (.cells #[.int .u8 0, .int .i32 0] 49)).frozen? ⟨b, o, none⟩ := fun b o => hf.marks _
  have F := Lib.hid (((Fresh.refl w).alloc #[.int .u8 0, .int .i32 0] 49).trans hf)
  clear hf
  go_wp2
  exact bodyPost_ret (v := .tuple #[.agg #[.int .u8 (kd n), .int .i32 (vl n)], .bool true]) (by simp [results, Try.results51, go_sem, hc, hs]) rfl ⟨rfl, ((F.out.setCell (by simp) _).setCell (by simp) _).alloc _ _⟩

set_option maxRecDepth 100000 in
set_option maxHeartbeats 400000 in
theorem refOfResNo (n : Int) (h : n < 1 ∨ 1099511627776 < n) (w : World) :
    Calls Try.prog 51 #[.int .i64 n] w fun e w' => e = .returned (.tuple #[.agg #[.int .u8 0, .int .i32 0], .bool false]) ∧ Fresh w w' := by
  have H := Lib.hid h
  clear h
  go_enter Try.func51, Try.ntmps51
  go_wp2_with fail
  refine (refOfOpNo _ H.out _).mono ?_
  rintro e w' ⟨rfl, hf⟩
  have hs : w.heap.size < w'.heap.size := by have := hf.size; simp at this; omega
  have hc := hf.cell
  have hm : ∀ b o, w'.frozen? ⟨b, o, none⟩ = (w.alloc (.cells #[.int .u8 0, .int .i32 0] 49)).frozen? ⟨b, o, none⟩ := fun b o => hf.marks _
  have F := Lib.hid (((Fresh.refl w).alloc #[.int .u8 0, .int .i32 0] 49).trans hf)
  clear hf
  go_wp2
  exact bodyPost_ret (v := .tuple #[.agg #[.int .u8 0, .int .i32 0], .bool false]) (by simp [results, Try.results51, go_sem, hc, hs]) rfl ⟨rfl, ((F.out.setCell (by simp) _).setCell (by simp) _).alloc _ _⟩

end Go.Proofs.Ythefdglocnalhaa.M2
