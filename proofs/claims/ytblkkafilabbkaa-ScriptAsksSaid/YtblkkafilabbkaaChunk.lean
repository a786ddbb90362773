/-
  What slices.Chunk(b, 4) hands to a loop: one piece after another, four bytes each but the last one. Conditions: at most a million bytes.
-/
import Derived.Test.YtblkkafilabbkaaEntry
import Derived.RangeFuncNested
import Derived.RangeFuncBound
import Derived.RangeFuncCalls
import Derived.RangeFuncLeaves
import Derived.RangeFuncBox
import Derived.Shelf.Abstract
import Derived.Shelf.RegionOpen
import Derived.OwnWalkIn
import Derived.TacticsInMore
import Derived.LoopNIn
import Derived.LoopIn
import Derived.Maps.AppendAt
namespace Go.Proofs.Ytblkkafilabbkaa
open Go.RowKit Go.Shelf

attribute [local go_sem] Oper.semAt_some

/-- How long the piece number k is. -/
def c4 (len k : Nat) : Nat := min 4 (len - 4 * k)

def upto (k : Nat) : List Nat := List.range k
theorem upto_succ (k : Nat) : upto (k + 1) = upto k ++ [k] := List.range_succ
theorem upto_length (k : Nat) : (upto k).length = k := List.length_range

/-- How many pieces there are. -/
def pieces (len : Nat) : Nat := (len + 3) / 4

def chunkV (b off len : Nat) (k : Nat) : Array Value := #[.slice (some ⟨b, off + 4 * k, none⟩) (c4 len k) (c4 len k)]

/-- The blocks number B and B + 1 are as they were. -/
def Kept2 (B : Nat) (v w : World) : Prop := w.heap[B]? = v.heap[B]? ∧ w.heap[B + 1]? = v.heap[B + 1]?
theorem Kept2.refl (B : Nat) (w : World) : Kept2 B w w := ⟨rfl, rfl⟩
theorem Kept2.trans {B : Nat} {u v w : World} (h : Kept2 B u v) (k : Kept2 B v w) : Kept2 B u w := ⟨k.1.trans h.1, k.2.trans h.2⟩
theorem Kept2.c0 {B : Nat} {v w : World} (h : Kept2 B v w) {x : Value} (hc : v.cell? ⟨B, 0, none⟩ = some x) : w.cell? ⟨B, 0, none⟩ = some x := (World.cell?_of_block (a := ⟨B, 0, none⟩) h.1).trans hc
theorem Kept2.c1 {B : Nat} {v w : World} (h : Kept2 B v w) {x : Value} (hc : v.cell? ⟨B + 1, 0, none⟩ = some x) : w.cell? ⟨B + 1, 0, none⟩ = some x := (World.cell?_of_block (a := ⟨B + 1, 0, none⟩) h.2).trans hc

set_option maxRecDepth 100000 in
set_option maxHeartbeats 2000000 in
theorem chunk1 (n : Nat) (l Bs b off len cap : Nat) (hlen : len ≤ 1000000) (hcap : len ≤ cap) (J Jx : List Nat → World → Prop)
    (hY : ∀ pre x W, J pre W → pre.length < len → YieldAt Fence.wide (n - 1) Try.prog l (chunkV b off len x) W fun e W' =>
      (e = .returned (.bool true) ∧ J (pre ++ [x]) W' ∧ Kept2 Bs W W') ∨ (e = .returned (.bool false) ∧ Jx (pre ++ [x]) W'))
    (W : World) (hBs : W.cell? ⟨Bs, 0, none⟩ = some (.slice (some ⟨b, off, none⟩) len cap)) (hBn : W.cell? ⟨Bs + 1, 0, none⟩ = some (.int .i64 4)) (h0 : J [] W)
    (hJd : ∀ pre A q, J pre A → J pre (A.drewN q)) :
    CallsIn Fence.wide n Try.prog 25 #[.func (.yield l) #[] #[], .pointer (some ⟨Bs, 0, none⟩), .pointer (some ⟨Bs + 1, 0, none⟩)] W fun e W' => (∃ v, e = .returned v) ∧
      ((∃ ys, ys = upto (pieces len) ∧ J ys W') ∨ (∃ pre, (∃ k, k ≤ pieces len ∧ pre = upto k) ∧ Jx pre W')) := by
  refine callsIn_of_wp Try.func25 rfl trivial ?_ rfl
  simp only [Try.ntmps25, List.size_toArray, List.length_cons, List.length_nil, Nat.reduceAdd, Nat.reduceSub, Array.replicate_succ, Array.replicate_zero, List.push_toArray, List.append_toArray, List.nil_append, List.cons_append]
  gi_wp2
  gi_loopw [4] (fun i wr => ∃ k : Nat, k ≤ pieces len ∧ i = .int .i64 ((4 * k : Nat) : Int) ∧ J (upto k) wr ∧ Kept2 Bs W wr)
    (fun i _ => 4 + len - (intOf i).toNat)
  case atStart => exact ⟨0, Nat.zero_le _, rfl, h0, Kept2.refl _ _⟩
  case round =>
    obtain ⟨k, hk, rfl, hJs, hnx⟩ := hrel
    have HK := Lib.hid hk
    have HJ := Lib.hid hJs
    have HX := Lib.hid hnx
    have hs1 := hnx.c0 hBs
    have hn1 := hnx.c1 hBn
    clear hBs hBn hnx hJs
    unfold pieces at hk
    by_cases hlt : 4 * k < len
    · have hc4 : c4 len k ≤ 4 ∧ 4 * k + c4 len k ≤ len ∧ 1 ≤ c4 len k := by unfold c4; omega
      obtain ⟨hc1, hc2, hc3⟩ := hc4
      have HM := Lib.hid (show (if ((len - 4 * k : Nat) : Int) < 4 then ((len - 4 * k : Nat) : Int) else 4) = (c4 len k : Int) by unfold c4; split <;> omega)
      have HY : Hid (∀ W1, J (upto k) W1 → YieldAt Fence.wide (n - 1) Try.prog l (chunkV b off len k) W1 fun e W' =>
          (e = .returned (.bool true) ∧ J (upto k ++ [k]) W' ∧ Kept2 Bs W1 W') ∨ (e = .returned (.bool false) ∧ Jx (upto k ++ [k]) W')) := Lib.hid fun W1 h => hY _ k W1 h (by rw [upto_length]; omega)
      simp only [chunkV] at HY
      have HP := Lib.hid (show k + 1 ≤ pieces len by unfold pieces; omega)
      have HI := Lib.hid (show 4 * k + 4 = 4 * (k + 1) by omega)
      generalize 4 * k = i at *
      generalize c4 len k = e at *
      clear hk
      gi_wp2
      refine wpIn_wide.2 ?_
      go_quiet (fail)
      rw [HM.out]
      have s2 : (wr.drewN nq).cell? ⟨Bs, 0, none⟩ = some (.slice (some ⟨b, off, none⟩) len cap) := hs1
      have n2 : (wr.drewN nq).cell? ⟨Bs + 1, 0, none⟩ = some (.int .i64 4) := hn1
      have HX2 := Lib.hid (show Kept2 Bs W (wr.drewN nq) from HX.out)
      have HJ2 := Lib.hid (hJd _ _ nq HJ.out)
      clear hs1 hn1 HX HJ HM
      generalize wr.drewN nq = W1 at *
      obtain ⟨fn, tmps, assign, body, hy, hR⟩ := HY.out W1 HJ2.out
      have HR := Lib.hid hR
      clear hR
      gi_wp2
      refine ⟨(fun h => by simp [Fence.wide] at h), HR.out.mono ?_⟩
      rintro e3 W3 (⟨rfl, hJ3, hk3⟩ | ⟨rfl, hJx3⟩)
      · have n3 := hk3.c1 n2
        have HJ3 := Lib.hid hJ3
        have HK3 := Lib.hid hk3
        clear hJ3 hk3 s2 n2 hy
        gi_wp2
        go_roundw
        case rel => exact ⟨k + 1, HP.out, by rw [← HI.out]; go_num, by rw [upto_succ]; exact HJ3.out, HX2.out.trans HK3.out⟩
        case measure => simp [intOf]; omega
      · gi_wp2
        refine bodyPost_ret (results_none rfl _ _ _) rfl ?_
        exact ⟨⟨_, rfl⟩, .inr ⟨_, ⟨k + 1, HP.out, (upto_succ _).symm⟩, hJx3⟩⟩
    · obtain rfl : k = pieces len := by unfold pieces; omega
      have hge : ¬ ((4 * pieces len : Nat) : Int) < len := by omega
      generalize 4 * pieces len = i at *
      gi_wp2
      go_end0
      first | exact ⟨⟨_, rfl⟩, .inl HJ.out⟩ | exact ⟨⟨_, rfl⟩, .inl ⟨_, rfl, HJ.out⟩⟩

set_option maxRecDepth 100000 in
set_option maxHeartbeats 2000000 in
/-- .. at no bytes at all: no round. -/
theorem chunk1_none (n : Nat) (l Bs Bn : Nat) (ao : Option Addr) (cap : Nat) (J : List Nat → World → Prop)
    (W : World) (hBs : W.cell? ⟨Bs, 0, none⟩ = some (.slice ao 0 cap)) (h0 : J [] W) :
    CallsIn Fence.wide n Try.prog 25 #[.func (.yield l) #[] #[], .pointer (some ⟨Bs, 0, none⟩), .pointer (some ⟨Bn, 0, none⟩)] W fun e W' => (∃ v, e = .returned v) ∧ J [] W' := by
  refine callsIn_of_wp Try.func25 rfl trivial ?_ rfl
  simp only [Try.ntmps25, List.size_toArray, List.length_cons, List.length_nil, Nat.reduceAdd, Nat.reduceSub, Array.replicate_succ, Array.replicate_zero, List.push_toArray, List.append_toArray, List.nil_append, List.cons_append]
  gi_wp2
  gi_loopw [4] (fun i wr => i = .int .i64 0 ∧ wr.cell? ⟨Bs, 0, none⟩ = some (.slice ao 0 cap) ∧ J [] wr) (fun _ _ => 0)
  case atStart => exact ⟨rfl, hBs, h0⟩
  case round =>
    obtain ⟨rfl, hc, hJs⟩ := hrel
    clear hBs
    gi_wp2
    go_end0
    exact ⟨⟨_, rfl⟩, hJs⟩

set_option maxHeartbeats 1000000 in
/-- **slices.Chunk(b, 4)**: both arguments are boxed; the function value captures the boxes. -/
theorem chunk_in (n : Nat) (a : Option Addr) (len cap : Nat) (w : World) :
    CallsIn Fence.wide n Try.prog 23 #[.slice a len cap, .int .i64 4] w fun e w' => e = .returned (.func (.func 25) #[] #[.pointer (some ⟨w.heap.size, 0, none⟩), .pointer (some ⟨w.heap.size + 1, 0, none⟩)]) ∧ w' = (w.alloc (.cells #[.slice a len cap] 22)).alloc (.cells #[.int .i64 4] 3) := by
  refine callsIn_of_wp Try.func23 rfl trivial ?_ rfl
  simp only [Try.ntmps23, List.size_toArray, List.length_cons, List.length_nil, Nat.reduceAdd, Nat.reduceSub, Array.replicate_succ, Array.replicate_zero, List.push_toArray, List.append_toArray, List.nil_append, List.cons_append]
  gi_wp2
  go_ret
  exact ⟨rfl, rfl⟩

/-- What the loop gets: every piece in its order, or a part of them where a round has said 'no more'. A round keeps the two boxes. -/
theorem chunk_stops (n : Nat) (Bs : Nat) (ao : Option Addr) (len cap : Nat) (b off : Nat) (hlen : len ≤ 1000000) (hcap : len ≤ cap) (hao : 0 < len → ao = some ⟨b, off, none⟩) (w : World) (hs : Bs + 1 < w.heap.size)
    (hBs : w.cell? ⟨Bs, 0, none⟩ = some (.slice ao len cap)) (hBn : w.cell? ⟨Bs + 1, 0, none⟩ = some (.int .i64 4)) :
    SeqStopsK Fence.wide n Try.prog 25 #[.pointer (some ⟨Bs, 0, none⟩), .pointer (some ⟨Bs + 1, 0, none⟩)] (chunkV b off len) (Kept2 Bs) (fun ys => ys = upto (pieces len)) (fun pre => ∃ k, k ≤ pieces len ∧ pre = upto k) len w := fun l J Jx W hW hJ _ hY h0 => by
  have e1 := (hW.cell (p := ⟨Bs, 0, none⟩) (show Bs < w.heap.size by omega)).trans hBs
  have e2 := (hW.cell (p := ⟨Bs + 1, 0, none⟩) (show Bs + 1 < w.heap.size by omega)).trans hBn
  rcases Nat.eq_zero_or_pos len with h | h
  · subst h
    exact (chunk1_none n l Bs (Bs + 1) ao cap J W e1 h0).mono fun e W' ⟨he, hj⟩ => ⟨he, .inl ⟨_, rfl, hj⟩⟩
  · obtain rfl := hao h
    exact chunk1 n l Bs b off len cap hlen hcap J Jx hY W e1 e2 h0 (fun pre A q hp => hJ pre A _ none hp ⟨rfl, rfl, rfl, Nat.le_refl _, fun _ _ _ => rfl⟩ (fun r e => by cases e))

end Go.Proofs.Ytblkkafilabbkaa
