/-
  What script.Calls and reaperref03.Calls tell: a call of each thread and operation, as far as both go. Conditions: at most a million of each.
-/
import Derived.Test.YtblkkafilabbkaaRounds
namespace Go.Proofs.Ytblkkafilabbkaa
open Go.RowKit

/-- A slice's elements are these operations. -/
def Ops (w : World) (ao : Option Addr) (len : Nat) (os : List (Int × Int)) : Prop :=
  os.length = len ∧ (0 < len → ∃ b off, ao = some ⟨b, off, none⟩ ∧ b < w.heap.size ∧ ∀ i, i < len → w.cell? ⟨b, off + i * 2, none⟩ = some (.int .u8 (os.getD i (0, 0)).1) ∧ w.cell? ⟨b, off + i * 2 + 1, none⟩ = some (.int .i32 (os.getD i (0, 0)).2))

theorem Ops.keep {w w' : World} {ao : Option Addr} {len : Nat} {os : List (Int × Int)} (h : Ops w ao len os) (hb : Below w.heap.size w w') : Ops w' ao len os := by
  refine ⟨h.1, fun hp => ?_⟩
  obtain ⟨b, off, e, hl, hc⟩ := h.2 hp
  exact ⟨b, off, e, Nat.lt_of_lt_of_le hl hb.size, fun i hi => ⟨(hb.cell (p := ⟨b, _, none⟩) hl).trans (hc i hi).1, (hb.cell (p := ⟨b, _, none⟩) hl).trans (hc i hi).2⟩⟩

/-- The call number i. -/
def callE (ts : List Int) (os : List (Int × Int)) (i : Nat) : Ent := ⟨1, ts.getD i 0, (os.getD i (0, 0)).1, (os.getD i (0, 0)).2, 0⟩
/-- The first k calls. -/
def callL (ts : List Int) (os : List (Int × Int)) (k : Nat) : List Ent := (List.range k).map (callE ts os)
theorem callL_succ (ts : List Int) (os : List (Int × Int)) (k : Nat) : callL ts os (k + 1) = callL ts os k ++ [callE ts os k] := by simp [callL, List.range_succ]
theorem callL_length (ts : List Int) (os : List (Int × Int)) (k : Nat) : (callL ts os k).length = k := by simp [callL]

/-- Calls in a row of one's own. -/
def Called (w : World) (ts : List Int) (os : List (Int × Int)) (k : Nat) (v : Value) (wr : World) : Prop := wr.ownsRow w.heap.size 46 5 v k (flat (callL ts os k)) ∧ Below w.heap.size w wr

theorem Called.next {w wr w1 : World} {ts : List Int} {os : List (Int × Int)} {k : Nat} {v v' : Value} {o : Obj} (h : Called w ts os k v wr) (hown : w1.ownsRow w.heap.size 46 5 v' (k + 1) (flat (callL ts os k) ++ (callE ts os k).cells))
    (hg : (wr.alloc o).grownBy w1 v.ownBlock) : Called w ts os (k + 1) v' w1 := by
  refine ⟨by rw [callL_succ, flat_snoc]; exact hown, ?_⟩
  refine (h.2.alloc h.2.size o).grown hg (Nat.le_trans h.2.size (by simp)) (fun k e => ?_)
  exact (h.1.lt k e).1

theorem Called.drew {w wr : World} {ts : List Int} {os : List (Int × Int)} {k : Nat} {v : Value} (h : Called w ts os k v wr) : Called w ts os k v wr.drew := ⟨h.1.drew, below_drewN h.2 1⟩

/-- append on a row of one's own, as one step of a region that draws its order. -/
theorem step_append_own {P : Program} (w : World) {ops : Array Oper} {o : Oper} {a : Act} {K : Act → World → Prop} {Q : Exit → Act → World → Prop} {E : Prop}
    (hg : o.guard = none) (s x : Operand) (t : TypeId) (hop : o.op = Op.call { callee := Callee.builtin Builtin.append, args := #[s, x], argTypes := #[t, t] })
    (base : Nat) (e : TypeId) (i : TypeInfo) (z : Value) (size bytes : Nat) (h1 : P.underlying t = some (.slice e)) (h2 : P.info? e = some i) (h3 : i.zero = some z) (h4 : i.size = size) (h5 : i.bytes = bytes) (h6 : z.cells.size = size) (h7 : 0 < size)
    (v : Value) (k : Nat) (xs : List Value) (hs : a.eval s = v) (hown : w.ownsRow base e size v k xs) (ad : Addr) (m c : Nat) (news : List Value) (hx : a.eval x = .slice (some ad) m c) (hn : news.length = m * size)
    (hc : ∀ j u, news[j]? = some u → w.cell? (ad.add j) = some u) (h1c : ∀ u ∈ news, u.oneCell' = true) (b1 : k + m ≤ maxLen) (b2 : (k + m) * bytes ≤ 140737488355328) (b3 : base ≤ w.heap.size)
    (hK : ∀ v' w', w'.ownsRow base e size v' (k + m) (xs ++ news) → w.grownBy w' v.ownBlock → K (a.put o.dst v') w') :
    if Region.wanted o (yielded ops a.tmps) = true then Oper.wp P o a w K Q else E := by
  have hw : Region.wanted o (yielded ops a.tmps) = true := by simp [Region.wanted, hg]
  rw [if_pos hw]
  exact wp_append_own w s x t hop base e i z size bytes h1 h2 h3 h4 h5 h6 h7 v k xs hs hown ad m c news hx hn hc h1c b1 b2 b3 fun v' w' r1 r2 _ => hK v' w' r1 r2

set_option maxHeartbeats 2000000 in
theorem callsAny (w : World) (a b : Option Addr) (n m c d : Nat) (ts : List Int) (os : List (Int × Int)) (ht : Reads .i64 w a n ts) (ho : Ops w b m os) (hn : n ≤ 1000000) (hm : m ≤ 1000000) (q : Nat) (hq : q = min n m) :
    Calls Try.prog 18 #[.slice a n c, .slice b m d] w (EntsNew w (callL ts os q)) := by
  obtain ⟨i0, hi, hz0, hz1, hz2⟩ := info_parts infoE
  have HT := Lib.hid ht
  have HO := Lib.hid ho
  have HQ := Lib.hid (show (if m < n then (m : Int) else n) = (q : Int) by split <;> omega)
  have q1 : q ≤ n := by omega
  have q2 : q ≤ m := by omega
  clear ht ho hq
  go_enter Try.func18, Try.ntmps18
  go_upto_region 2 with (fail)
  rw [HQ.out]
  go_wp2_with (at_make; refine wpList_make_own _ rfl _ _ 23 rfl w.heap.size 46 i0 _ 5 Try.underlying23 hi hz0 hz1 .i64 .i64 _ q rfl rfl rfl (by rw [hz2]; omega) (by simp only [maxLen]; omega) (Nat.le_refl _) ?_; intro w1 hown1 hgrow1; have HO1 := Lib.hid hown1; have HG1 := Lib.hid hgrow1; clear hown1 hgrow1)
  have HS := Lib.hid (show Called w ts os 0 (.slice (some ⟨w.heap.size, 0, none⟩) 0 q) w1 from ⟨by simpa [callL, flat] using HO1.out, (Below.refl _ w).grown HG1.out (Nat.le_refl _) (fun k e => by cases e)⟩)
  clear HO1 HG1
  go_loopw [6, 16] (fun v i wr => ∃ k : Nat, k ≤ q ∧ i = .int .i64 k ∧ Called w ts os k v wr) (fun _ i _ => q - (intOf i).toNat)
  case atStart => exact ⟨0, Nat.zero_le _, rfl, HS.out⟩
  case round =>
    obtain ⟨k, hk, rfl, hpk⟩ := hrel
    have HK := Lib.hid hpk
    clear hpk HS
    by_cases hlt : k < q
    · obtain ⟨b1, o1, rfl, l1, h1⟩ := (HT.out.keep HK.out.2).2 (by omega)
      obtain ⟨b2, o2, rfl, l2, h2⟩ := (HO.out.keep HK.out.2).2 (by omega)
      have c1 := h1 k (by omega)
      obtain ⟨c2, c3⟩ := h2 k (by omega)
      clear h1 h2
      have i1 : (k : Int) < n := by omega
      have i2 : (k : Int) < m := by omega
      go_upto_region 6 with (fail)
      have HD := Lib.hid HK.out.drew
      clear HK
      go_region_law (refine step_append_own _ rfl _ _ 23 rfl w.heap.size 46 i0 _ 5 32 Try.underlying23 hi hz0 hz1 hz2 rfl (by decide) _ _ _ rfl (HD.out.1.alloc _) ⟨wr.heap.size, 0, none⟩ 1 1 (callE ts os k).cells rfl rfl (new_cells wr.drew (callE ts os k)) (fun u hu => flat_one [callE ts os k] u (by simpa [flat] using hu)) (by simp only [maxLen]; omega) (by omega) (Nat.le_trans HD.out.2.size (by simp)) ?_; intro v' w4 hown' hgrow; have HO4 := Lib.hid hown'; have HG4 := Lib.hid hgrow; clear hown' hgrow)
      all_goals
        go_wp2
        go_roundw
        case rel => exact ⟨k + 1, by omega, by go_num, HD.out.next HO4.out HG4.out⟩
        case measure => simp [intOf]; omega
    · obtain rfl : k = q := by omega
      go_wp2
      go_ret
      exact EntsNew.of_own HK.out.1 HK.out.2

set_option maxHeartbeats 2000000 in
theorem refCalls (w : World) (a b : Option Addr) (n m c d : Nat) (ts : List Int) (os : List (Int × Int)) (ht : Reads .i64 w a n ts) (ho : Ops w b m os) (hn : n ≤ 1000000) (hm : m ≤ 1000000) (q : Nat) (hq : q = min n m) :
    Calls Try.prog 19 #[.slice a n c, .slice b m d] w (EntsNew w (callL ts os q)) := by
  obtain ⟨i0, hi, hz0, hz1, hz2⟩ := info_parts infoE
  have HT := Lib.hid ht
  have HO := Lib.hid ho
  have q1 : q ≤ n := by omega
  have q2 : q ≤ m := by omega
  have HQ := Lib.hid hq
  clear ht ho hq
  go_enter Try.func19, Try.ntmps19
  go_wp2
  have HS := Lib.hid (show Called w ts os 0 (.slice none 0 0) w from ⟨by simpa [callL, flat] using World.ownsRow_nil w w.heap.size 46 5, Below.refl _ w⟩)
  go_loopw [5, 6] (fun v i wr => ∃ k : Nat, k ≤ q ∧ i = .int .i64 k ∧ Called w ts os k v wr) (fun _ i _ => q - (intOf i).toNat)
  case atStart => exact ⟨0, Nat.zero_le _, rfl, HS.out⟩
  case round =>
    obtain ⟨k, hk, rfl, hpk⟩ := hrel
    have HK := Lib.hid hpk
    clear hpk HS
    by_cases hlt : k < q
    · obtain ⟨b1, o1, rfl, l1, h1⟩ := (HT.out.keep HK.out.2).2 (by omega)
      obtain ⟨b2, o2, rfl, l2, h2⟩ := (HO.out.keep HK.out.2).2 (by omega)
      have c1 := h1 k (by omega)
      obtain ⟨c2, c3⟩ := h2 k (by omega)
      clear h1 h2
      have i1 : (k : Int) < n := by omega
      have i2 : (k : Int) < m := by omega
      go_upto_region 5 with (fail)
      have HD := Lib.hid HK.out.drew
      clear HK
      go_region_law (refine step_append_own _ rfl _ _ 23 rfl w.heap.size 46 i0 _ 5 32 Try.underlying23 hi hz0 hz1 hz2 rfl (by decide) _ _ _ rfl (HD.out.1.alloc _) ⟨wr.heap.size, 0, none⟩ 1 1 (callE ts os k).cells rfl rfl (new_cells wr.drew (callE ts os k)) (fun u hu => flat_one [callE ts os k] u (by simpa [flat] using hu)) (by simp only [maxLen]; omega) (by omega) (Nat.le_trans HD.out.2.size (by simp)) ?_; intro v' w4 hown' hgrow; have HO4 := Lib.hid hown'; have HG4 := Lib.hid hgrow; clear hown' hgrow)
      all_goals
        go_wp2
        go_roundw
        case rel => exact ⟨k + 1, by omega, by go_num, HD.out.next HO4.out HG4.out⟩
        case measure => simp [intOf]; omega
    · obtain rfl : k = q := by omega
      by_cases hnm : k < n
      · have hkm : ¬ k < m := by have := HQ.out; omega
        go_wp2
        go_ret
        exact EntsNew.of_own HK.out.1 HK.out.2
      · go_wp2
        go_ret
        exact EntsNew.of_own HK.out.1 HK.out.2

end Go.Proofs.Ytblkkafilabbkaa
