/-
  A line of pushes that wait, in plain lists: what becomes of it by each operation, which push a pop meets, and codes. Conditions: none; no Go function is looked at here. Rows of numbers and of what is told, in blocks of one's own, and boxes that hold them; whom the first operations meet, and codes, in rows. Conditions: none; no Go function is looked at here. A row of what is told, in a block of one's own: codes and values. Conditions: none; no Go function is looked at here. What Spared of package match answers; equality of numbers and of codes; the chapter's example holds. Conditions: operations that lie in memory, at most a million; lists of at most a thousand. What Pairs of package match answers. Conditions: operations that lie in memory, at most a million. MatchFront: the walk. Conditions: arguments as they came in. The document's stack of places, in plain lists: those that were there are -1; three rows of one's own side by side. Conditions: none; no Go function is looked at here. What reaperref09.Pairs and reaperref09.Spared answer. Conditions: operations that lie in memory, at most a thousand. MatchPairs: the walk. Conditions: arguments as they came in. Who was met, how many meet at most, and which item a pop takes that meets nobody, in plain lists; a row of bools in a block of one's own. Conditions: none; no Go function is looked at here.
-/
import Derived.Test.YtafocplahmfghaaInfo10
import Derived.Deep.CutRange
import Derived.Deep.CutBlock
namespace Go.Proofs.Ytafocplahmfghaa
open Go.RowKit

/-- How many of the items that were there are left, and the places of the pushes that wait, behind an operation. -/
def lineStep (most : Int) (s : Int × List Int) (k kind : Int) : Int × List Int :=
  if kind = 1 then (if s.1 + s.2.length < most then (s.1, s.2 ++ [k]) else s)
  else if kind = 2 then (if s.2 = [] then (if 0 < s.1 then (s.1 - 1, []) else s) else (s.1, s.2.dropLast))
  else s
/-- And behind the first ones of many, of these kinds. -/
def lineAt (most there : Int) (ks : Nat → Int) : Nat → Int × List Int
  | 0 => (there, [])
  | k + 1 => lineStep most (lineAt most there ks k) k (ks k)
/-- The code that one is told. -/
def lineC (most : Int) (s : Int × List Int) (kind : Int) : Int :=
  if kind = 1 then (if s.1 + s.2.length < most then 1 else 3)
  else if kind = 2 then (if s.2 = [] then (if 0 < s.1 then 2 else 4) else 2)
  else 5
/-- The push that one meets. -/
def lineP (s : Int × List Int) (kind : Int) : Int := if kind = 2 then s.2.getLastD (-1) else -1

/-- The codes of the first n. -/
def codesL (most there : Int) (ks : Nat → Int) (n : Nat) : List Int := (List.range n).map fun k => lineC most (lineAt most there ks k) (ks k)
/-- Whom the first n meet. -/
def pairsL (most there : Int) (ks : Nat → Int) (n : Nat) : List Int := (List.range n).map fun k => lineP (lineAt most there ks k) (ks k)

section
variable {most there : Int} {ks : Nat → Int} {n k : Nat}
theorem codesL_length : (codesL most there ks n).length = n := by simp [codesL]
theorem pairsL_length : (pairsL most there ks n).length = n := by simp [pairsL]
theorem codesL_snoc : codesL most there ks (n + 1) = codesL most there ks n ++ [lineC most (lineAt most there ks n) (ks n)] := by simp [codesL, List.range_succ]
theorem pairsL_snoc : pairsL most there ks (n + 1) = pairsL most there ks n ++ [lineP (lineAt most there ks n) (ks n)] := by simp [pairsL, List.range_succ]
theorem codesL_getD (h : k < n) : (codesL most there ks n).getD k 0 = lineC most (lineAt most there ks k) (ks k) := by simp [codesL, List.getD, h]
theorem pairsL_getD (h : k < n) : (pairsL most there ks n).getD k 0 = lineP (lineAt most there ks k) (ks k) := by simp [pairsL, List.getD, h]

/-- What holds of a line. -/
structure LineOk (most there : Int) (k : Nat) (s : Int × List Int) : Prop where
  low : 0 ≤ s.1
  high : s.1 ≤ there
  room : s.1 + s.2.length ≤ most
  places : ∀ j ∈ s.2, 0 ≤ j ∧ j < k

theorem lineStep_ok {s : Int × List Int} (h : LineOk most there k s) (kind : Int) : LineOk most there (k + 1) (lineStep most s k kind) := by
  obtain ⟨h1, h2, h3, h4⟩ := h
  have up : ∀ j ∈ s.2, 0 ≤ j ∧ j < ((k + 1 : Nat) : Int) := fun j hj => by have := h4 j hj; omega
  unfold lineStep
  split
  · split
    · refine ⟨h1, h2, by simp; omega, fun j hj => ?_⟩
      simp only [List.mem_append, List.mem_singleton] at hj
      rcases hj with hj | rfl
      · exact up j hj
      · omega
    · exact ⟨h1, h2, h3, up⟩
  · split
    · split
      · split
        · refine ⟨by omega, by omega, ?_, fun j hj => by simp at hj⟩
          simp; omega
        · exact ⟨h1, h2, h3, up⟩
      · refine ⟨h1, h2, ?_, fun j hj => up j (List.dropLast_subset _ hj)⟩
        simp only [List.length_dropLast]; omega
    · exact ⟨h1, h2, h3, up⟩
theorem lineAt_ok (h0 : 0 ≤ there) (h1 : there ≤ most) (ks : Nat → Int) : ∀ k, LineOk most there k (lineAt most there ks k)
  | 0 => ⟨h0, Int.le_refl _, by simpa [lineAt] using h1, fun j hj => by simp [lineAt] at hj⟩
  | k + 1 => by
    have h := lineStep_ok (lineAt_ok h0 h1 ks k) (ks k)
    simpa [lineAt] using h

/-- A line at a stack without room has nothing. -/
theorem lineAt_none (ks : Nat → Int) (k : Nat) : lineAt 0 0 ks k = (0, []) := by
  have h := lineAt_ok (Int.le_refl 0) (Int.le_refl 0) ks k
  obtain ⟨h1, h2, h3, _⟩ := h
  have e1 : (lineAt 0 0 ks k).1 = 0 := by omega
  have e2 : (lineAt 0 0 ks k).2 = [] := List.eq_nil_of_length_eq_zero (by omega)
  exact Prod.ext e1 e2

theorem lineP_in {s : Int × List Int} (h : LineOk most there k s) (kind : Int) : -1 ≤ lineP s kind ∧ lineP s kind < k := by
  unfold lineP
  split
  · rcases List.eq_nil_or_concat s.2 with e | ⟨l, x, e⟩
    · rw [e]; simp; omega
    · have := h.places x (by rw [e]; simp)
      rw [e, List.concat_eq_append, List.getLastD_concat]; omega
  · omega
theorem lineC_in (most : Int) (s : Int × List Int) (kind : Int) : 0 ≤ lineC most s kind ∧ lineC most s kind ≤ 255 := by
  unfold lineC
  repeat' split
  all_goals omega
end

/-- Numbers in a block of their own. -/
def Rw (w : World) (b : Nat) (k : IntKind) (t : TypeId) (xs : List Int) : Prop := w.heap[b]? = some (.cells (xs.map (Value.int k)).toArray t (0, 0))
section
variable {w w' : World} {b : Nat} {k : IntKind} {t : TypeId} {xs : List Int}
theorem Rw.lt (h : Rw w b k t xs) : b < w.heap.size := lt_of_block h
theorem Rw.keep (h : Rw w b k t xs) (hb : w'.heap[b]? = w.heap[b]?) : Rw w' b k t xs := hb.trans h
theorem Rw.below (h : Rw w b k t xs) (hb : Below w.heap.size w w') : Rw w' b k t xs := h.keep (hb.block b h.lt)
theorem Rw.free (h : Rw w b k t xs) (j : Nat) : w.frozen? ⟨b, j, none⟩ = false := by unfold Rw at h; simp [World.frozen?, h]
theorem Rw.cell (h : Rw w b k t xs) {i : Nat} (hi : i < xs.length) : w.cell? ⟨b, i, none⟩ = some (.int k (xs.getD i 0)) := by
  unfold Rw at h
  simp [World.cell?, h, List.getD, hi]
theorem Rw.set (h : Rw w b k t xs) (i : Nat) (x : Int) : Rw (w.setCell ⟨b, i, none⟩ (.int k x)) b k t (xs.set i x) := by
  unfold Rw at h ⊢
  rw [heap_setCell_same w b i _ _ _ h]
  simp
theorem Rw.reads (h : Rw w b k t xs) {n : Nat} (hn : xs.length = n) : Reads k w (some ⟨b, 0, none⟩) n xs := ⟨hn, fun _ => ⟨b, 0, rfl, h.lt, fun i hi => by rw [Nat.zero_add]; exact h.cell (by omega)⟩⟩
end

/-- A variable that holds a list, whose block is b. -/
def SBx (w : World) (B : Nat) (t : TypeId) (b n : Nat) : Prop := w.heap[B]? = some (.cells #[.slice (some ⟨b, 0, none⟩) n n] t (0, 0))
section
variable {w w' : World} {B b n : Nat} {t : TypeId}
theorem SBx.lt (h : SBx w B t b n) : B < w.heap.size := lt_of_block h
theorem SBx.keep (h : SBx w B t b n) (hb : w'.heap[B]? = w.heap[B]?) : SBx w' B t b n := hb.trans h
theorem SBx.cell (h : SBx w B t b n) : w.cell? ⟨B, 0, none⟩ = some (.slice (some ⟨b, 0, none⟩) n n) := by unfold SBx at h; simp [World.cell?, h]
theorem SBx.new (w : World) (t : TypeId) (b n : Nat) : SBx (w.alloc (.cells #[.slice (some ⟨b, 0, none⟩) n n] t)) w.heap.size t b n := heap_alloc_new w _
end

/-- What is told, after k of n. -/
def codesK (most there : Int) (ks : Nat → Int) (n k : Nat) : List Int := codesL most there ks k ++ List.replicate (n - k) 0
def pairsK (most there : Int) (ks : Nat → Int) (n k : Nat) : List Int := pairsL most there ks k ++ List.replicate (n - k) (-1)
section
variable {most there : Int} {ks : Nat → Int} {n k : Nat}
theorem codesK_length (h : k ≤ n) : (codesK most there ks n k).length = n := by simp [codesK, codesL_length]; omega
theorem pairsK_length (h : k ≤ n) : (pairsK most there ks n k).length = n := by simp [pairsK, pairsL_length]; omega
theorem codesK_all : codesK most there ks n n = codesL most there ks n := by simp [codesK]
theorem pairsK_all : pairsK most there ks n n = pairsL most there ks n := by simp [pairsK]
theorem codesK_none : codesK most there ks n 0 = List.replicate n 0 := by simp [codesK, codesL]
theorem pairsK_none : pairsK most there ks n 0 = List.replicate n (-1) := by simp [pairsK, pairsL]
theorem codesK_put (h : k < n) : (codesK most there ks n k).set k (lineC most (lineAt most there ks k) (ks k)) = codesK most there ks n (k + 1) := by
  unfold codesK
  rw [List.set_append_right _ _ (by rw [codesL_length]; omega), codesL_length, Nat.sub_self, show n - k = (n - (k + 1)) + 1 by omega, List.replicate_succ, List.set_cons_zero, codesL_snoc]
  simp
theorem pairsK_put (h : k < n) : (pairsK most there ks n k).set k (lineP (lineAt most there ks k) (ks k)) = pairsK most there ks n (k + 1) := by
  unfold pairsK
  rw [List.set_append_right _ _ (by rw [pairsL_length]; omega), pairsL_length, Nat.sub_self, show n - k = (n - (k + 1)) + 1 by omega, List.replicate_succ, List.set_cons_zero, pairsL_snoc]
  simp
theorem pairsK_same (h : k < n) (e : lineP (lineAt most there ks k) (ks k) = -1) : pairsK most there ks n k = pairsK most there ks n (k + 1) := by
  unfold pairsK
  rw [pairsL_snoc, e, show n - k = (n - (k + 1)) + 1 by omega, List.replicate_succ]
  simp
end

/-- How many items there may be said to be, of those that may be. -/
def haveOf (x m : Int) : Int := if x < 0 then 0 else if m < x then m else x
theorem haveOf_in (x m : Int) (hm : 0 ≤ m) : 0 ≤ haveOf x m ∧ haveOf x m ≤ m := by unfold haveOf; split <;> (try split) <;> omega

/-- The kinds of operations. -/
def kindsOf (os : List (Int × Int)) (k : Nat) : Int := (os.getD k (0, 0)).1

/-- A row of what is told, in a block of its own. -/
def RRow (w : World) (b : Nat) (rs : List (Int × Int)) : Prop := w.heap[b]? = some (.cells (flatO rs).toArray 40 (0, 0))
theorem flatO_set (rs : List (Int × Int)) (i : Nat) (c x : Int) : ((flatO rs).set (i * 2) (.int .u8 c)).set (i * 2 + 1) (.int .i32 x) = flatO (rs.set i (c, x)) := by
  induction rs generalizing i with
  | nil => rfl
  | cons o os ih =>
    cases i with
    | zero => simp [flatO]
    | succ i =>
      have := ih i
      rw [show (i + 1) * 2 = i * 2 + 2 by omega, show i * 2 + 2 + 1 = i * 2 + 1 + 2 by omega]
      simpa [flatO, List.flatMap_cons] using this
theorem flatO_set1 (rs : List (Int × Int)) (i : Nat) (c : Int) : (flatO rs).set (i * 2) (.int .u8 c) = flatO (rs.set i (c, (rs.getD i (0, 0)).2)) := by
  induction rs generalizing i with
  | nil => rfl
  | cons o os ih =>
    cases i with
    | zero => simp [flatO]
    | succ i =>
      have := ih i
      rw [show (i + 1) * 2 = i * 2 + 2 by omega]
      simpa [flatO, List.flatMap_cons] using this

section
variable {w w' : World} {b i : Nat} {rs : List (Int × Int)}
theorem RRow.lt (h : RRow w b rs) : b < w.heap.size := lt_of_block h
theorem RRow.keep (h : RRow w b rs) (hb : w'.heap[b]? = w.heap[b]?) : RRow w' b rs := hb.trans h
theorem RRow.below (h : RRow w b rs) (hb : Below w.heap.size w w') : RRow w' b rs := (hb.block b h.lt).trans h
theorem RRow.free (h : RRow w b rs) (j : Nat) : w.frozen? ⟨b, j, none⟩ = false := by unfold RRow at h; simp [World.frozen?, h]
theorem RRow.cells (h : RRow w b rs) (hi : i < rs.length) : w.cell? ⟨b, i * 2, none⟩ = some (.int .u8 (rs.getD i (0, 0)).1) ∧ w.cell? ⟨b, i * 2 + 1, none⟩ = some (.int .i32 (rs.getD i (0, 0)).2) := by
  obtain ⟨h1, h2⟩ := flatO_at rs i hi
  unfold RRow at h
  simp [World.cell?, h, h1, h2]
theorem RRow.set2 (h : RRow w b rs) (i : Nat) (c x : Int) : RRow ((w.setCell ⟨b, i * 2, none⟩ (.int .u8 c)).setCell ⟨b, i * 2 + 1, none⟩ (.int .i32 x)) b (rs.set i (c, x)) := by
  unfold RRow at h ⊢
  rw [heap_setCell_same _ b _ _ _ _ (heap_setCell_same w b _ _ _ _ h), ← flatO_set]
  simp
theorem RRow.set1 (h : RRow w b rs) (i : Nat) (c : Int) : RRow (w.setCell ⟨b, i * 2, none⟩ (.int .u8 c)) b (rs.set i (c, (rs.getD i (0, 0)).2)) := by
  unfold RRow at h ⊢
  rw [heap_setCell_same w b _ _ _ _ h, ← flatO_set1]
  simp
theorem RRow.ops (h : RRow w b rs) : OpsAt w (some ⟨b, 0, none⟩) rs.length rs := ⟨rfl, fun _ => ⟨b, 0, rfl, h.lt, fun i hi => by simpa using h.cells hi⟩⟩
end

theorem flatO_setV (rs : List (Int × Int)) (i : Nat) (x : Int) : (flatO rs).set (i * 2 + 1) (.int .i32 x) = flatO (rs.set i ((rs.getD i (0, 0)).1, x)) := by
  induction rs generalizing i with
  | nil => rfl
  | cons o os ih =>
    cases i with
    | zero => simp [flatO]
    | succ i =>
      have := ih i
      rw [show (i + 1) * 2 + 1 = i * 2 + 1 + 2 by omega]
      simpa [flatO, List.flatMap_cons] using this
theorem RRow.setV {w : World} {b : Nat} {rs : List (Int × Int)} (h : RRow w b rs) (i : Nat) (x : Int) : RRow (w.setCell ⟨b, i * 2 + 1, none⟩ (.int .i32 x)) b (rs.set i ((rs.getD i (0, 0)).1, x)) := by
  unfold RRow at h ⊢
  rw [heap_setCell_same w b _ _ _ _ h, ← flatO_setV]
  simp

theorem infoRes : (Try.prog.info? 40).map (fun i => (i.zero, i.size, i.bytes)) = some (some (.agg #[.int .u8 0, .int .i32 0]), 2, 8) := by kernel_rfl

theorem made_two (n : Nat) : (madeCells (Value.agg #[.int .u8 0, .int .i32 0]).cells (n * 2)).toList = flatO (List.replicate n (0, 0)) := by
  apply List.ext_getElem?
  intro j
  by_cases hj : j < n * 2
  · have h2 := flatO_at (List.replicate n (0, 0)) (j / 2) (by simp; omega)
    have hd : (List.replicate n ((0, 0) : Int × Int)).getD (j / 2) (0, 0) = (0, 0) := by simp [List.getD, show j / 2 < n by omega]
    rw [hd] at h2
    have e : (madeCells (Value.agg #[.int .u8 0, .int .i32 0]).cells (n * 2)).toList[j]? = some (if j % 2 = 0 then Value.int .u8 0 else .int .i32 0) := by
      simp only [madeCells, Value.cells]
      rcases Nat.mod_two_eq_zero_or_one j with h | h <;> simp [hj, h]
    rw [e]
    rcases Nat.mod_two_eq_zero_or_one j with h | h
    · rw [if_pos h, show j = j / 2 * 2 by omega]; exact h2.1.symm
    · rw [if_neg (by omega), show j = j / 2 * 2 + 1 by omega]; exact h2.2.symm
  · rw [List.getElem?_eq_none (by simp [madeCells]; omega), List.getElem?_eq_none (by rw [flatO_length]; simp; omega)]
theorem madeRes {w w1 : World} {n : Nat} (ho : w1.ownsRow w.heap.size 40 2 (.slice (some ⟨w.heap.size, 0, none⟩) n n) n (madeCells (Value.agg #[.int .u8 0, .int .i32 0]).cells (n * 2)).toList) (hg : w.grownBy w1 none) :
    RRow w1 w.heap.size (List.replicate n (0, 0)) ∧ Below w.heap.size w w1 := by
  refine ⟨?_, (Below.refl _ _).grown hg (Nat.le_refl _) (by simp)⟩
  rw [made_two] at ho
  rcases ho.2 with ⟨h', _⟩ | ⟨g', cap', cur, h', _, hgg, _, _, hcs, htake⟩
  · simp at h'
  · simp only [Value.slice.injEq, Option.some.injEq, Addr.mk.injEq, and_true, true_and] at h'
    obtain ⟨rfl, rfl⟩ := h'
    unfold RRow
    rw [hgg, ← htake, List.take_of_length_le (by simp; omega)]

/-- How many meet. -/
def metN (xs : List Int) : Int := ((xs.filter (fun x => x != -1)).length : Int)
theorem metN_snoc (xs : List Int) (x : Int) : metN (xs ++ [x]) = metN xs + if x = -1 then 0 else 1 := by
  unfold metN
  rw [List.filter_append]
  by_cases h : x = -1 <;> simp [h]
theorem metN_take (xs : List Int) (k : Nat) (h : k < xs.length) : metN (xs.take (k + 1)) = metN (xs.take k) + if xs.getD k 0 = -1 then 0 else 1 := by
  rw [List.take_succ_eq_append_getElem h, metN_snoc]
  simp [List.getD, h]
theorem metN_in (xs : List Int) : 0 ≤ metN xs ∧ metN xs ≤ xs.length := by
  unfold metN
  exact ⟨by omega, by have := List.length_filter_le (fun x : Int => x != -1) xs; omega⟩

set_option maxHeartbeats 1600000 in
theorem intsEq (w : World) (a b : Option Addr) (n c d : Nat) (zs : List Int) (ha : Reads .i64 w a n zs) (hb : Reads .i64 w b n zs) (hl : n ≤ 1000) :
    Calls Try.prog 18 #[.slice a n c, .slice b n d] w fun e w' => e = .returned (.bool true) ∧ Below w.heap.size w w' := by
  have HA := Lib.hid ha
  have HB := Lib.hid hb
  clear ha hb
  go_enter Try.func18, Try.ntmps18
  go_wp2
  go_loopw [5] (fun i wr => ∃ k : Nat, k ≤ n ∧ i = .int .i64 k ∧ Below w.heap.size w wr) (fun i _ => n - (intOf i).toNat)
  case atStart => exact ⟨0, Nat.zero_le _, rfl, Below.refl _ _⟩
  case round =>
    obtain ⟨k, hk, rfl, hbe⟩ := hrel
    have HE := Lib.hid hbe
    by_cases hlt : k < n
    · obtain ⟨b1, o1, rfl, l1, h1⟩ := (HA.out.keep hbe).2 (by omega)
      obtain ⟨b2, o2, rfl, l2, h2⟩ := (HB.out.keep hbe).2 (by omega)
      have c1 := h1 k hlt
      have c2 := h2 k hlt
      have i0 : (k : Int) < n := by omega
      clear h1 h2 hbe
      generalize zs.getD k 0 = e1 at *
      go_wp2
      go_quiet (fail)
      go_wp2
      go_roundw
      case rel => exact ⟨k + 1, by omega, by go_num, below_drewN HE.out _⟩
      case measure => simp [intOf]; omega
    · clear hbe
      go_wp2
      go_ret
      exact ⟨rfl, HE.out⟩

set_option maxHeartbeats 1600000 in
theorem codesEq (w : World) (a b : Option Addr) (n c d : Nat) (zs : List Int) (ha : Reads .u8 w a n zs) (hb : Reads .u8 w b n zs) (hl : n ≤ 1000) :
    Calls Try.prog 19 #[.slice a n c, .slice b n d] w fun e w' => e = .returned (.bool true) ∧ Below w.heap.size w w' := by
  have HA := Lib.hid ha
  have HB := Lib.hid hb
  clear ha hb
  go_enter Try.func19, Try.ntmps19
  go_wp2
  go_loopw [5] (fun i wr => ∃ k : Nat, k ≤ n ∧ i = .int .i64 k ∧ Below w.heap.size w wr) (fun i _ => n - (intOf i).toNat)
  case atStart => exact ⟨0, Nat.zero_le _, rfl, Below.refl _ _⟩
  case round =>
    obtain ⟨k, hk, rfl, hbe⟩ := hrel
    have HE := Lib.hid hbe
    by_cases hlt : k < n
    · obtain ⟨b1, o1, rfl, l1, h1⟩ := (HA.out.keep hbe).2 (by omega)
      obtain ⟨b2, o2, rfl, l2, h2⟩ := (HB.out.keep hbe).2 (by omega)
      have c1 := h1 k hlt
      have c2 := h2 k hlt
      have i0 : (k : Int) < n := by omega
      clear h1 h2 hbe
      generalize zs.getD k 0 = e1 at *
      go_wp2
      go_quiet (fail)
      go_wp2
      go_roundw
      case rel => exact ⟨k + 1, by omega, by go_num, below_drewN HE.out _⟩
      case measure => simp [intOf]; omega
    · clear hbe
      go_wp2
      go_ret
      exact ⟨rfl, HE.out⟩

/-- A literal of operations. -/
theorem opsLit3 (w : World) (a b c d e f : Int) : OpsAt (w.alloc (.cells #[.int .u8 a, .int .i32 b, .int .u8 c, .int .i32 d, .int .u8 e, .int .i32 f] 42)) (some ⟨w.heap.size, 0, none⟩) 3 [(a, b), (c, d), (e, f)] :=
  ⟨rfl, fun _ => ⟨w.heap.size, 0, rfl, by simp, fun i hi => by
    match i, hi with
    | 0, _ => exact ⟨by go_simp, by go_simp⟩
    | 1, _ => exact ⟨by go_simp, by go_simp⟩
    | 2, _ => exact ⟨by go_simp, by go_simp⟩⟩⟩
theorem opsLit2 (w : World) (a b c d : Int) : OpsAt (w.alloc (.cells #[.int .u8 a, .int .i32 b, .int .u8 c, .int .i32 d] 42)) (some ⟨w.heap.size, 0, none⟩) 2 [(a, b), (c, d)] :=
  ⟨rfl, fun _ => ⟨w.heap.size, 0, rfl, by simp, fun i hi => by
    match i, hi with
    | 0, _ => exact ⟨by go_simp, by go_simp⟩
    | 1, _ => exact ⟨by go_simp, by go_simp⟩⟩⟩
theorem readsLit3 (w : World) (k : IntKind) (t : TypeId) (a b c : Int) : Reads k (w.alloc (.cells #[.int k a, .int k b, .int k c] t)) (some ⟨w.heap.size, 0, none⟩) 3 [a, b, c] :=
  ⟨rfl, fun _ => ⟨w.heap.size, 0, rfl, by simp, fun i hi => by
    match i, hi with
    | 0, _ => go_simp
    | 1, _ => go_simp
    | 2, _ => go_simp⟩⟩

theorem infoU8 : (Try.prog.info? 5).map (fun i => (i.zero, i.size, i.bytes)) = some (some (.int .u8 0), 1, 1) := by kernel_rfl

theorem madeRow {w w1 : World} {n : Nat} {k : IntKind} {t : TypeId} (ho : w1.ownsRow w.heap.size t 1 (.slice (some ⟨w.heap.size, 0, none⟩) n n) n (madeCells (Value.int k 0).cells (n * 1)).toList) (hg : w.grownBy w1 none) :
    Rw w1 w.heap.size k t (List.replicate n 0) ∧ Below w.heap.size w w1 := by
  have hr := rowWhole ho
  rw [show (Value.int k 0).cells = #[Value.int k 0] from rfl, Nat.mul_one, toList_madeCells_one] at hr
  exact ⟨by unfold Rw; rw [hr]; simp, (Below.refl _ _).grown hg (Nat.le_refl _) (by simp)⟩

/-- What Pairs leaves. -/
def PairsPost (w : World) (most there : Int) (ks : Nat → Int) (n : Nat) (e : Ending) (w' : World) : Prop :=
  ∃ gw gc, e = .returned (.tuple #[.slice (some ⟨gw, 0, none⟩) n n, .slice (some ⟨gc, 0, none⟩) n n]) ∧ Rw w' gw .i64 3 (pairsL most there ks n) ∧ Rw w' gc .u8 5 (codesL most there ks n) ∧ w.heap.size ≤ gw ∧ w.heap.size ≤ gc ∧ gw ≠ gc ∧ Below w.heap.size w w'

theorem haveOf_cases (x m : Int) (hm : 0 ≤ m) : ((x < 0 ∧ m = 0) ∧ haveOf x m = 0) ∨ ((x < 0 ∧ 0 < m) ∧ haveOf x m = 0) ∨ ((x = 0 ∧ m = 0) ∧ haveOf x m = 0) ∨ ((x = 0 ∧ 0 < m) ∧ haveOf x m = 0) ∨ ((0 < x ∧ x < m) ∧ haveOf x m = x) ∨ ((0 < x ∧ x = m) ∧ haveOf x m = x) ∨ ((0 < m ∧ m < x) ∧ haveOf x m = m) ∨ ((m = 0 ∧ 0 < x) ∧ haveOf x m = 0) := by
  unfold haveOf
  rcases (show (x < 0 ∧ m = 0) ∨ (x < 0 ∧ 0 < m) ∨ (x = 0 ∧ m = 0) ∨ (x = 0 ∧ 0 < m) ∨ (0 < x ∧ x < m) ∨ (0 < x ∧ x = m) ∨ (0 < m ∧ m < x) ∨ (m = 0 ∧ 0 < x) from by omega) with h | h | h | h | h | h | h | h
  · left; exact ⟨h, if_pos h.1⟩
  · right; left; exact ⟨h, if_pos h.1⟩
  · right; right; left; exact ⟨h, by rw [if_neg (by omega), if_neg (by omega)]; exact h.1⟩
  · right; right; right; left; exact ⟨h, by rw [if_neg (by omega), if_neg (by omega)]; exact h.1⟩
  · right; right; right; right; left; exact ⟨h, by rw [if_neg (by omega), if_neg (by omega)]⟩
  · right; right; right; right; right; left; exact ⟨h, by rw [if_neg (by omega), if_neg (by omega)]⟩
  · right; right; right; right; right; right; left; exact ⟨h, by rw [if_neg (by omega), if_pos h.2]⟩
  · right; right; right; right; right; right; right; exact ⟨h, by rw [if_neg (by omega), if_pos (by omega)]; exact h.1⟩

theorem mostOf_cases (m : Int) : (m < 0 ∧ mostOf m = 0) ∨ (m = 0 ∧ mostOf m = 0) ∨ ((0 < m ∧ m < 1000) ∧ mostOf m = m) ∨ (m = 1000 ∧ mostOf m = 1000) ∨ (1000 < m ∧ mostOf m = 1000) := by
  unfold mostOf
  rcases (show m < 0 ∨ m = 0 ∨ (0 < m ∧ m < 1000) ∨ m = 1000 ∨ 1000 < m from by omega) with h | h | h | h | h
  · left; exact ⟨h, if_pos h⟩
  · subst h; right; left; exact ⟨rfl, rfl⟩
  · right; right; left; exact ⟨h, by rw [if_neg (by omega), if_neg (by omega)]⟩
  · subst h; right; right; right; left; exact ⟨rfl, rfl⟩
  · right; right; right; right; exact ⟨h, by rw [if_neg (by omega), if_pos h]⟩

theorem lineAt_congr {most there : Int} {ks ks' : Nat → Int} : ∀ {k : Nat}, (∀ i, i < k → ks i = ks' i) → lineAt most there ks k = lineAt most there ks' k
  | 0, _ => rfl
  | k + 1, h => by
    have ih := lineAt_congr (most := most) (there := there) (k := k) (fun i hi => h i (by omega))
    simp only [lineAt]
    rw [ih, h k (by omega)]
theorem pairsL_congr {most there : Int} {ks ks' : Nat → Int} {n : Nat} (h : ∀ i, i < n → ks i = ks' i) : pairsL most there ks n = pairsL most there ks' n := by
  unfold pairsL
  refine List.map_congr_left fun k hk => ?_
  have hk : k < n := by simpa using hk
  rw [lineAt_congr (fun i hi => h i (by omega)), h k hk]
theorem codesL_congr {most there : Int} {ks ks' : Nat → Int} {n : Nat} (h : ∀ i, i < n → ks i = ks' i) : codesL most there ks n = codesL most there ks' n := by
  unfold codesL
  refine List.map_congr_left fun k hk => ?_
  have hk : k < n := by simpa using hk
  rw [lineAt_congr (fun i hi => h i (by omega)), h k hk]
theorem kindsOf_take (os : List (Int × Int)) (k : Nat) : ∀ i, i < k → kindsOf (os.take k) i = kindsOf os i := by
  intro i hi
  simp [kindsOf, List.getD, hi]
theorem pairsL_take {most there : Int} {ks : Nat → Int} {n k : Nat} (h : k ≤ n) : (pairsL most there ks n).take k = pairsL most there ks k := by
  unfold pairsL
  rw [← List.map_take, List.take_range, Nat.min_eq_left h]
theorem metN_mono (xs : List Int) (k : Nat) : metN (xs.take k) ≤ metN xs := by
  have h : metN xs = metN (xs.take k) + metN (xs.drop k) := by
    have := List.take_append_drop k xs
    have e : metN (xs.take k ++ xs.drop k) = metN (xs.take k) + metN (xs.drop k) := by
      unfold metN
      rw [List.filter_append]
      simp
    rw [this] at e
    exact e
  have := (metN_in (xs.drop k)).1
  omega
theorem OpsAt.take {w : World} {ao : Option Addr} {n : Nat} {os : List (Int × Int)} (h : OpsAt w ao n os) {k : Nat} (hk : k ≤ n) : OpsAt w ao k (os.take k) := by
  refine ⟨by simp [h.1]; omega, fun hp => ?_⟩
  obtain ⟨b, off, e, hb, hc⟩ := h.2 (by omega)
  refine ⟨b, off, e, hb, fun i hi => ?_⟩
  have := hc i (by omega)
  simpa [List.getD, hi] using this

theorem Reads.front {k : IntKind} {w : World} {ao : Option Addr} {n m : Nat} {zs : List Int} (h : Reads k w ao n zs) (hm : m ≤ n) : Reads k w ao m (zs.take m) := by
  refine ⟨by rw [List.length_take, h.1]; omega, fun hp => ?_⟩
  obtain ⟨b, off, e, hb, hc⟩ := h.2 (by omega)
  refine ⟨b, off, e, hb, fun i hi => ?_⟩
  rw [hc i (by omega)]
  simp [List.getD, hi]

/-- The stack of places that a line speaks of. -/
def srow (s : Int × List Int) : List Int := List.replicate s.1.toNat (-1) ++ s.2
section
variable {most there t : Int} {ps : List Int} {k kind : Int}
theorem srow_len (h : 0 ≤ t) : ((srow (t, ps)).length : Int) = t + ps.length := by simp [srow]; omega
theorem srow_push (h0 : 0 ≤ t) (hf : ((srow (t, ps)).length : Int) < most) : srow (lineStep most (t, ps) k 1) = srow (t, ps) ++ [k] ∧ lineC most (t, ps) 1 = 1 ∧ lineP (t, ps) 1 = -1 := by
  rw [srow_len h0] at hf
  simp [lineStep, lineC, lineP, hf, srow]
theorem srow_full (h0 : 0 ≤ t) (hf : ¬ ((srow (t, ps)).length : Int) < most) : srow (lineStep most (t, ps) k 1) = srow (t, ps) ∧ lineC most (t, ps) 1 = 3 ∧ lineP (t, ps) 1 = -1 := by
  rw [srow_len h0] at hf
  simp [lineStep, lineC, lineP, hf]
theorem srow_none (h0 : 0 ≤ t) (he : srow (t, ps) = []) : srow (lineStep most (t, ps) k 2) = [] ∧ lineC most (t, ps) 2 = 4 ∧ lineP (t, ps) 2 = -1 := by
  have hl := srow_len (ps := ps) h0
  rw [he] at hl
  have hp : ps = [] := List.eq_nil_of_length_eq_zero (by simp at hl; omega)
  subst hp
  obtain rfl : t = 0 := by simp at hl; omega
  simp [lineStep, lineC, lineP, srow]
theorem srow_pop (h0 : 0 ≤ t) {l : List Int} {z : Int} (he : srow (t, ps) = l ++ [z]) : srow (lineStep most (t, ps) k 2) = l ∧ lineC most (t, ps) 2 = 2 ∧ lineP (t, ps) 2 = z := by
  rcases List.eq_nil_or_concat ps with e | ⟨ys, j, e⟩
  · subst e
    have hl := srow_len (ps := []) h0
    rw [he] at hl
    simp at hl
    obtain ⟨m, rfl⟩ : ∃ m : Nat, t = ((m + 1 : Nat) : Int) := ⟨t.toNat - 1, by omega⟩
    have e2 : ((m + 1 : Nat) : Int).toNat = m + 1 := by omega
    have e1 : (((m + 1 : Nat) : Int) - 1).toNat = m := by omega
    unfold srow at he
    simp only [e2, List.append_nil, List.replicate_succ'] at he
    obtain ⟨ha, hb⟩ := List.append_inj' he rfl
    have ht : 0 < ((m + 1 : Nat) : Int) := by omega
    refine ⟨?_, ?_, ?_⟩
    · simp only [lineStep, if_neg (show ¬ (2 : Int) = 1 by omega), if_true, if_pos ht, srow, e1, List.append_nil]
      exact ha
    · simp only [lineC, if_neg (show ¬ (2 : Int) = 1 by omega), if_true, if_pos ht]
    · simp only [lineP, if_true, List.getLastD_nil]
      simpa using hb
  · rw [List.concat_eq_append] at e
    subst e
    unfold srow at he
    simp only at he
    rw [← List.append_assoc] at he
    obtain ⟨ha, hb⟩ := List.append_inj' he rfl
    obtain rfl : j = z := by simpa using hb
    refine ⟨?_, by simp [lineC], by simp [lineP]⟩
    simp [lineStep, srow, ← ha]
theorem srow_bad (h1 : kind ≠ 1) (h2 : kind ≠ 2) : srow (lineStep most (t, ps) k kind) = srow (t, ps) ∧ lineC most (t, ps) kind = 5 ∧ lineP (t, ps) kind = -1 := by
  simp [lineStep, lineC, lineP, h1, h2]
end

/-- No block is both ones'. -/
def Off2 (v v' : Value) : Prop := ∀ g, v.ownBlock = some g → v'.ownBlock ≠ some g
theorem Off2.symm {v v' : Value} (h : Off2 v v') : Off2 v' v := fun g a b => h g b a
theorem Off2.nil (v : Value) : Off2 (.slice none 0 0) v := fun g h => by simp [Value.ownBlock] at h

/-- Three rows of one's own, none of which lies in another one's block. -/
structure R3 (B : Nat) (w0 : World) (v1 v2 v3 : Value) (l1 l2 l3 : List Int) (W : World) : Prop where
  o1 : W.ownsRow B 3 1 v1 l1.length (l1.map (Value.int .i64))
  o2 : W.ownsRow B 3 1 v2 l2.length (l2.map (Value.int .i64))
  o3 : W.ownsRow B 5 1 v3 l3.length (l3.map (Value.int .u8))
  d12 : Off2 v1 v2
  d13 : Off2 v1 v3
  d23 : Off2 v2 v3
  b : Below B w0 W
  s : B ≤ W.heap.size

section
variable {B : Nat} {w0 W W' : World} {v1 v2 v3 v' : Value} {l1 l2 l3 : List Int} {x : Int} {o : Obj}
theorem R3.start (w : World) : R3 w.heap.size w (.slice none 0 0) (.slice none 0 0) (.slice none 0 0) [] [] [] w :=
  ⟨World.ownsRow_nil _ _ _ _, World.ownsRow_nil _ _ _ _, World.ownsRow_nil _ _ _ _, Off2.nil _, Off2.nil _, Off2.nil _, Below.refl _ _, Nat.le_refl _⟩
theorem R3.alloc (h : R3 B w0 v1 v2 v3 l1 l2 l3 W) (o : Obj) : R3 B w0 v1 v2 v3 l1 l2 l3 (W.alloc o) :=
  ⟨h.o1.alloc _, h.o2.alloc _, h.o3.alloc _, h.d12, h.d13, h.d23, h.b.alloc h.s _, Nat.le_trans h.s (by simp)⟩
theorem grown_keep {n : Nat} {e : TypeId} {v u : Value} {ys : List Value} (hg : W.grownBy W' v.ownBlock) (hu : W.ownsRow B e 1 u n ys) (hd : Off2 v u) : W'.ownsRow B e 1 u n ys :=
  own_keep hu (fun g hg' => hg.block g (hu.lt g hg').2 (fun e => hd g e.symm hg'))
theorem grown_off {n : Nat} {e : TypeId} {v u v' : Value} {ys : List Value} (hl : ∀ g, v'.ownBlock = some g → v.ownBlock = some g ∨ W.heap.size ≤ g) (hu : W.ownsRow B e 1 u n ys) (hd : Off2 v u) : Off2 v' u := fun g a b => by
  rcases hl g a with h | h
  · exact hd g h b
  · have := (hu.lt g b).2; omega
theorem R3.app1 (h : R3 B w0 v1 v2 v3 l1 l2 l3 W) (ho : W'.ownsRow B 3 1 v' (l1.length + 1) (l1.map (Value.int .i64) ++ [.int .i64 x])) (hg : W.grownBy W' v1.ownBlock) (hl : ∀ g, v'.ownBlock = some g → v1.ownBlock = some g ∨ W.heap.size ≤ g) : R3 B w0 v' v2 v3 (l1 ++ [x]) l2 l3 W' :=
  ⟨by simpa using ho, grown_keep hg h.o2 h.d12, grown_keep hg h.o3 h.d13, grown_off hl h.o2 h.d12, grown_off hl h.o3 h.d13, h.d23, h.b.grown hg h.s (fun k e => (h.o1.lt k e).1), Nat.le_trans h.s hg.size⟩
theorem R3.app2 (h : R3 B w0 v1 v2 v3 l1 l2 l3 W) (ho : W'.ownsRow B 3 1 v' (l2.length + 1) (l2.map (Value.int .i64) ++ [.int .i64 x])) (hg : W.grownBy W' v2.ownBlock) (hl : ∀ g, v'.ownBlock = some g → v2.ownBlock = some g ∨ W.heap.size ≤ g) : R3 B w0 v1 v' v3 l1 (l2 ++ [x]) l3 W' :=
  ⟨grown_keep hg h.o1 h.d12.symm, by simpa using ho, grown_keep hg h.o3 h.d23, (grown_off hl h.o1 h.d12.symm).symm, h.d13, grown_off hl h.o3 h.d23, h.b.grown hg h.s (fun k e => (h.o2.lt k e).1), Nat.le_trans h.s hg.size⟩
theorem R3.app3 (h : R3 B w0 v1 v2 v3 l1 l2 l3 W) (ho : W'.ownsRow B 5 1 v' (l3.length + 1) (l3.map (Value.int .u8) ++ [.int .u8 x])) (hg : W.grownBy W' v3.ownBlock) (hl : ∀ g, v'.ownBlock = some g → v3.ownBlock = some g ∨ W.heap.size ≤ g) : R3 B w0 v1 v2 v' l1 l2 (l3 ++ [x]) W' :=
  ⟨grown_keep hg h.o1 h.d13.symm, grown_keep hg h.o2 h.d23.symm, by simpa using ho, h.d12, (grown_off hl h.o1 h.d13.symm).symm, (grown_off hl h.o2 h.d23.symm).symm, h.b.grown hg h.s (fun k e => (h.o3.lt k e).1), Nat.le_trans h.s hg.size⟩
theorem R3.cut {g cap q : Nat} {z : Int} (h : R3 B w0 (.slice (some ⟨g, 0, none⟩) (q + 1) cap) v2 v3 (l1 ++ [z]) l2 l3 W) (hq : q = l1.length) : R3 B w0 (.slice (some ⟨g, 0, none⟩) q cap) v2 v3 l1 l2 l3 W := by
  subst hq
  have ho := h.o1
  simp only [List.length_append, List.length_cons, List.length_nil, Nat.zero_add] at ho
  have hc := own_cut ho (Nat.le_succ l1.length)
  exact ⟨by simpa [List.take_append] using hc, h.o2, h.o3, h.d12, h.d13, h.d23, h.b, h.s⟩
end

theorem refMost (n : Int) (w : World) :
    Calls Try.prog 36 #[.int .i64 n] w fun e w' => e = .returned (.int .i64 (mostOf n)) ∧ w = w' := by
  rcases (show n < 0 ∨ 1000 < n ∨ (0 ≤ n ∧ n ≤ 1000) from by omega) with h | h | h
  · have HE := Lib.hid (show mostOf n = 0 by unfold mostOf; rw [if_pos h])
    have h2 : n < 1000 := by omega
    go_enter Try.func36, Try.ntmps36
    go_wp2
    go_ret
    exact ⟨by rw [HE.out]; rfl, rfl⟩
  · have HE := Lib.hid (show mostOf n = 1000 by unfold mostOf; rw [if_neg (by omega), if_pos h])
    go_enter Try.func36, Try.ntmps36
    go_wp2
    go_ret
    exact ⟨by rw [HE.out]; rfl, rfl⟩
  · have HE := Lib.hid (mostOf_self n h.1 h.2)
    obtain ⟨h0, h1⟩ := h
    rcases (show n = 0 ∨ n = 1000 ∨ (0 < n ∧ n < 1000) from by omega) with h | h | ⟨h2, h3⟩
    · subst h
      go_enter Try.func36, Try.ntmps36
      go_wp2
      go_ret
      exact ⟨by rw [HE.out]; rfl, rfl⟩
    · subst h
      go_enter Try.func36, Try.ntmps36
      go_wp2
      go_ret
      exact ⟨by rw [HE.out]; rfl, rfl⟩
    · go_enter Try.func36, Try.ntmps36
      go_wp2
      go_ret
      exact ⟨by rw [HE.out]; rfl, rfl⟩

/-- What the document's Pairs leaves. -/
def RefPost (w : World) (most there : Int) (ks : Nat → Int) (n : Nat) (e : Ending) (w' : World) : Prop :=
  ∃ ap cp ac cc, e = .returned (.tuple #[.slice ap n cp, .slice ac n cc]) ∧ Reads .i64 w' ap n (pairsL most there ks n) ∧ Reads .u8 w' ac n (codesL most there ks n) ∧ Below w.heap.size w w'

set_option maxRecDepth 100000 in
set_option maxHeartbeats 16000000 in
theorem refPairs (w : World) (x most : Int) (ao : Option Addr) (n cap : Nat) (os : List (Int × Int)) (ho : OpsAt w ao n os) (hn : n ≤ 1000) :
    Calls Try.prog 20 #[.int .i64 x, .int .i64 most, .slice ao n cap] w (RefPost w (mostOf most) (haveOf x (mostOf most)) (kindsOf os) n) := by
  obtain ⟨i0, hi, hz0, hz1, hz2⟩ := info_parts infoI
  obtain ⟨j0, hj, hy0, hy1, hy2⟩ := info_parts infoU8
  have HO := Lib.hid ho
  have HS := Lib.hid (R3.start w)
  clear ho
  go_enter Try.func20, Try.ntmps20
  go_wp2_with (go_at_call 36; refine (refMost _ _).mono ?_; rintro e w' ⟨rfl, rfl⟩)
  have hm := mostOf_in most
  generalize mostOf most = m at *
  obtain ⟨m0, m1⟩ := hm
  have hh := haveOf_in x m m0
  obtain ⟨hN, hhN⟩ : ∃ hN : Nat, haveOf x m = hN := ⟨(haveOf x m).toNat, by omega⟩
  have hN2 : hN ≤ 1000 := by omega
  have HHN := Lib.hid hhN
  have HH := Lib.hid hh
  clear hh hhN
  go_loopw [9, 10] (fun v i wr => ∃ k : Nat, k ≤ hN ∧ i = .int .i64 k ∧ Hid (R3 w.heap.size w v (.slice none 0 0) (.slice none 0 0) (List.replicate k (-1)) [] [] wr)) (fun _ i _ => hN - (intOf i).toNat)
  case atStart => exact ⟨0, Nat.zero_le _, rfl, HS⟩
  case round =>
    obtain ⟨k, hk, rfl, HR⟩ := hrel
    clear HS
    by_cases hlt : k < hN
    · go_upto_region 4 with (fail)
      go_cut [23] from 18 to 23 (fun s wx => s = .bool true ∧ wr = wx)
      case first =>
        have hkh : (k : Int) < haveOf x m := by rw [HHN.out]; omega
        rcases haveOf_cases x m m0 with ⟨⟨h1, h2⟩, he⟩ | ⟨⟨h1, h2⟩, he⟩ | ⟨⟨h1, h2⟩, he⟩ | ⟨⟨h1, h2⟩, he⟩ | ⟨⟨h1, h2⟩, he⟩ | ⟨⟨h1, h2⟩, he⟩ | ⟨⟨h1, h2⟩, he⟩ | ⟨⟨h1, h2⟩, he⟩
        · rw [he] at hkh
          clear he
          subst h2
          have g1 : ¬ 0 < x := by omega
          have g2 : x < 0 := h1
          first
            | omega
            | (go_wp2_with fail
               go_meet
               exact ⟨rfl, rfl⟩)
        · rw [he] at hkh
          clear he
          have g1 : ¬ 0 < x := by omega
          have g3 : ¬ m < x := by omega
          have g4 : ¬ m ≤ x := by omega
          have g5 : x < m := by omega
          first
            | omega
            | (go_wp2_with fail
               go_meet
               exact ⟨rfl, rfl⟩)
        · rw [he] at hkh
          clear he
          subst h1 h2
          first
            | omega
            | (go_wp2_with fail
               go_meet
               exact ⟨rfl, rfl⟩)
        · rw [he] at hkh
          clear he
          subst h1
          have g3 : ¬ m < 0 := by omega
          first
            | omega
            | (go_wp2_with fail
               go_meet
               exact ⟨rfl, rfl⟩)
        · rw [he] at hkh
          clear he
          have g1 : ¬ x < 0 := by omega
          have g3 : ¬ m < x := by omega
          have g4 : ¬ m ≤ x := by omega
          first
            | omega
            | (go_wp2_with fail
               go_meet
               exact ⟨rfl, rfl⟩)
        · rw [he] at hkh
          clear he
          subst h2
          have g1 : ¬ x < 0 := by omega
          first
            | omega
            | (go_wp2_with fail
               go_meet
               exact ⟨rfl, rfl⟩)
        · rw [he] at hkh
          clear he
          have g1 : ¬ m < 0 := by omega
          have g3 : ¬ x < m := by omega
          have g4 : ¬ x ≤ m := by omega
          first
            | omega
            | (go_wp2_with fail
               go_meet
               exact ⟨rfl, rfl⟩)
        · rw [he] at hkh
          clear he
          subst h1
          have g1 : ¬ x < 0 := by omega
          have g3 : ¬ x ≤ 0 := by omega
          first
            | omega
            | (go_wp2_with fail
               go_meet
               exact ⟨rfl, rfl⟩)
      case' rest => skip
      obtain ⟨rfl, rfl⟩ := hcut
      have hl : (List.replicate k (-1 : Int)).length = k := by simp
      have ho := HR.out.o1
      rw [hl] at ho
      go_wp2_with (at_builtin; refine wpList_append_later rfl _ _ 33 rfl w.heap.size 3 i0 _ 1 8 Try.underlying33 hi hz0 hz1 hz2 rfl (by decide) _ k _ rfl (ho.alloc _) ⟨wr.heap.size, 0, none⟩ 1 1 [.int .i64 (-1)] rfl rfl (by intro j u hu; cases j <;> simp at hu; subst hu; go_simp) (by intro u hu; simp at hu; subst hu; rfl) (by simp only [maxLen]; omega) (by omega) (Nat.le_trans HR.out.s (by simp)) ?_; intro v' w1 q g l; have HN := Lib.hid ((HR.out.alloc _).app1 (by rw [hl]; exact q) g l); clear q g l)
      go_roundw
      case rel => exact ⟨k + 1, by omega, by go_num, by rw [List.replicate_succ']; exact HN⟩
      case measure => simp [intOf]; omega
    · obtain rfl : hN = k := by omega
      go_upto_region 4 with (fail)
      go_cut [23] from 18 to 23 (fun s wx => s = .bool false ∧ wr = wx)
      case first =>
        have hkh : ¬ (hN : Int) < haveOf x m := by rw [HHN.out]; omega
        rcases haveOf_cases x m m0 with ⟨⟨h1, h2⟩, he⟩ | ⟨⟨h1, h2⟩, he⟩ | ⟨⟨h1, h2⟩, he⟩ | ⟨⟨h1, h2⟩, he⟩ | ⟨⟨h1, h2⟩, he⟩ | ⟨⟨h1, h2⟩, he⟩ | ⟨⟨h1, h2⟩, he⟩ | ⟨⟨h1, h2⟩, he⟩
        · rw [he] at hkh
          clear he
          subst h2
          have g1 : ¬ 0 < x := by omega
          have g2 : x < 0 := h1
          first
            | omega
            | (go_wp2_with fail
               go_meet
               exact ⟨rfl, rfl⟩)
        · rw [he] at hkh
          clear he
          have g1 : ¬ 0 < x := by omega
          have g3 : ¬ m < x := by omega
          have g4 : ¬ m ≤ x := by omega
          have g5 : x < m := by omega
          first
            | omega
            | (go_wp2_with fail
               go_meet
               exact ⟨rfl, rfl⟩)
        · rw [he] at hkh
          clear he
          subst h1 h2
          first
            | omega
            | (go_wp2_with fail
               go_meet
               exact ⟨rfl, rfl⟩)
        · rw [he] at hkh
          clear he
          subst h1
          have g3 : ¬ m < 0 := by omega
          first
            | omega
            | (go_wp2_with fail
               go_meet
               exact ⟨rfl, rfl⟩)
        · rw [he] at hkh
          clear he
          have g1 : ¬ x < 0 := by omega
          have g3 : ¬ m < x := by omega
          have g4 : ¬ m ≤ x := by omega
          first
            | omega
            | (go_wp2_with fail
               go_meet
               exact ⟨rfl, rfl⟩)
        · rw [he] at hkh
          clear he
          subst h2
          have g1 : ¬ x < 0 := by omega
          first
            | omega
            | (go_wp2_with fail
               go_meet
               exact ⟨rfl, rfl⟩)
        · rw [he] at hkh
          clear he
          have g1 : ¬ m < 0 := by omega
          have g3 : ¬ x < m := by omega
          have g4 : ¬ x ≤ m := by omega
          first
            | omega
            | (go_wp2_with fail
               go_meet
               exact ⟨rfl, rfl⟩)
        · rw [he] at hkh
          clear he
          subst h1
          have g1 : ¬ x < 0 := by omega
          have g3 : ¬ x ≤ 0 := by omega
          first
            | omega
            | (go_wp2_with fail
               go_meet
               exact ⟨rfl, rfl⟩)
      case' rest => skip
      obtain ⟨rfl, rfl⟩ := hcut
      have HS := Lib.hid (show R3 w.heap.size w u9 (.slice none 0 0) (.slice none 0 0) (srow (lineAt m hN (kindsOf os) 0)) (pairsL m hN (kindsOf os) 0) (codesL m hN (kindsOf os) 0) wr from by
        have := HR.out
        simpa [srow, lineAt, pairsL, codesL] using this)
      have HH2 := Lib.hid (show (0 : Int) ≤ (hN : Int) ∧ (hN : Int) ≤ m by have := HH.out; rw [HHN.out] at this; exact this)
      clear HR hlt HH
      generalize u9 = s0 at *
      go_wp2
      go_loopw [9, 11, 12, 13] (fun v1 v2 v3 i wr => ∃ k : Nat, k ≤ n ∧ i = .int .i64 k ∧ Hid (R3 w.heap.size w v1 v2 v3 (srow (lineAt m hN (kindsOf os) k)) (pairsL m hN (kindsOf os) k) (codesL m hN (kindsOf os) k) wr)) (fun _ _ _ i _ => n - (intOf i).toNat)
      case atStart => exact ⟨0, Nat.zero_le _, rfl, HS⟩
      case round =>
        obtain ⟨k, hk, rfl, HR⟩ := hrel
        clear HS
        by_cases hlt : k < n
        · have hok := lineAt_ok HH2.out.1 HH2.out.2 (kindsOf os) k
          have HNX := Lib.hid (show lineAt m hN (kindsOf os) (k + 1) = lineStep m (lineAt m hN (kindsOf os) k) k (kindsOf os k) from rfl)
          obtain ⟨t, ps, hs⟩ : ∃ t ps, lineAt m hN (kindsOf os) k = (t, ps) := ⟨_, _, rfl⟩
          have t0 : 0 ≤ t := by have := hok.low; rw [hs] at this; exact this
          have hll : ((srow (t, ps)).length : Int) ≤ m := by have := hok.room; rw [hs] at this; rw [srow_len t0]; exact this
          have hsn1 := pairsL_snoc (most := m) (there := hN) (ks := kindsOf os) (n := k)
          have hsn2 := codesL_snoc (most := m) (there := hN) (ks := kindsOf os) (n := k)
          rw [hs] at hsn1 hsn2
          have hr := HR.out
          rw [hs] at hr
          obtain ⟨b, off, rfl, bl, hc⟩ := (HO.out.keep hr.b).2 (by omega)
          have c0 := (hc k hlt).1
          change wr.cell? ⟨b, off + k * 2, none⟩ = some (.int .u8 (kindsOf os k)) at c0
          have i1 : (k : Int) < (n : Int) := by omega
          have HX := Lib.hid hsn1
          have HY := Lib.hid hsn2
          have hxl : (pairsL m hN (kindsOf os) k).length = k := pairsL_length
          have hyl : (codesL m hN (kindsOf os) k).length = k := codesL_length
          rw [hs] at HNX
          have HR2 := Lib.hid hr
          have HXL := Lib.hid hxl
          have HYL := Lib.hid hyl
          clear HR hr hok hs hc bl hsn1 hsn2 hxl hyl
          obtain ⟨s', hs'⟩ : ∃ s', lineAt m hN (kindsOf os) (k + 1) = s' := ⟨_, rfl⟩
          have HS1 := Lib.hid hs'
          have HNX0 := HNX
          clear HNX
          have HNX := Lib.hid (show s' = lineStep m (t, ps) k (kindsOf os k) by rw [← hs']; exact HNX0.out)
          clear hs' HNX0
          generalize hkd : kindsOf os k = kd at *
          clear hkd
          go_upto_block 4 with (fail)
          go_cut [9, 14, 15] from 35 to 88 (fun s p c wx => Hid (R3 w.heap.size w s u11 u12 (srow s') (pairsL m hN (kindsOf os) k) (codesL m hN (kindsOf os) k) wx) ∧ p = .int .i64 (lineP (t, ps) kd) ∧ c = .int .u8 (lineC m (t, ps) kd))
          case first =>
            obtain ⟨L, hL⟩ : ∃ L, (srow (t, ps)).length = L := ⟨_, rfl⟩
            have ho := HR2.out.o1
            rw [hL] at ho hll
            obtain ⟨a1, cp1, rfl⟩ := ownShape ho
            have hL2 : L ≤ 1000 := by omega
            by_cases k1 : kd = 1
            · subst k1
              by_cases hf : (L : Int) < m
              · have HE := Lib.hid (srow_push (k := (k : Int)) (most := m) t0 (by rw [hL]; exact hf))
                have HL := Lib.hid hL
                clear hL
                go_wp2_with (at_builtin; refine wpList_append_later rfl (.tmp 55) (.tmp 57) 33 rfl w.heap.size 3 i0 _ 1 8 Try.underlying33 hi hz0 hz1 hz2 rfl (by decide) _ L _ rfl (ho.alloc _) ⟨wr.heap.size, 0, none⟩ 1 1 [.int .i64 k] rfl rfl (by intro j u hu; cases j <;> simp at hu; subst hu; go_simp) (by intro u hu; simp at hu; subst hu; rfl) (by simp only [maxLen]; omega) (by omega) (Nat.le_trans HR2.out.s (by simp)) ?_; intro v' w1 q g l; have HA := Lib.hid ((HR2.out.alloc _).app1 (by rw [HL.out]; exact q) g l); clear q g l)
                go_meet
                exact ⟨Lib.hid (by rw [HNX.out, HE.out.1]; exact HA.out), by rw [HE.out.2.2], by rw [HE.out.2.1]⟩
              · have HE := Lib.hid (srow_full (k := (k : Int)) (most := m) t0 (by rw [hL]; exact hf))
                have hf2 : m ≤ (L : Int) := by omega
                clear hL hf
                go_wp2_with fail
                go_meet
                exact ⟨Lib.hid (by rw [HNX.out, HE.out.1]; exact HR2.out), by rw [HE.out.2.2], by rw [HE.out.2.1]⟩
            · have k1b : (kd == 1) = false := by simpa using k1
              by_cases k2 : kd = 2
              · subst k2
                clear k1
                rcases List.eq_nil_or_concat (srow (t, ps)) with he | ⟨l, z, he⟩
                · have HE := Lib.hid (srow_none (k := (k : Int)) (most := m) t0 he)
                  obtain rfl : L = 0 := by rw [← hL, he]; rfl
                  have HR3 := Lib.hid (show R3 w.heap.size w _ u11 u12 [] (pairsL m hN (kindsOf os) k) (codesL m hN (kindsOf os) k) wr from by rw [← he]; exact HR2.out)
                  clear hL he
                  go_wp2_with fail
                  go_meet
                  exact ⟨Lib.hid (by rw [HNX.out, HE.out.1]; exact HR3.out), by rw [HE.out.2.2], by rw [HE.out.2.1]⟩
                · rw [List.concat_eq_append] at he
                  have HE := Lib.hid (srow_pop (k := (k : Int)) (most := m) t0 he)
                  obtain ⟨q, hq⟩ : ∃ q, q = l.length := ⟨_, rfl⟩
                  obtain rfl : L = q + 1 := by rw [← hL, he, hq]; simp
                  rcases ho.2 with ⟨_, e⟩ | ⟨g, cap', cur, e, _, hg, hle, _⟩
                  · omega
                  · simp only [Value.slice.injEq, true_and] at e
                    obtain ⟨rfl, rfl⟩ := e
                    have cy := ho.cellAt q (by omega)
                    have hy : ((srow (t, ps)).map (Value.int .i64))[q]? = some (.int .i64 z) := by rw [he, hq]; simp
                    rw [hy] at cy
                    have HR3 := Lib.hid (show R3 w.heap.size w _ u11 u12 (l ++ [z]) (pairsL m hN (kindsOf os) k) (codesL m hN (kindsOf os) k) wr from by rw [← he]; exact HR2.out)
                    have e1 : IntKind.i64.wrap (((q + 1 : Nat) : Int) - 1) = (q : Int) := by rw [IntKind.wrap_i64]; omega
                    have n0 : (((q + 1 : Nat) : Int) == 0) = false := by simp; omega
                    have HQ := Lib.hid hq
                    clear hL he hy hg ho hq
                    go_wp2_with fail
                    go_meet
                    exact ⟨Lib.hid (by rw [HNX.out, HE.out.1]; exact HR3.out.cut HQ.out), by rw [HE.out.2.2], by rw [HE.out.2.1]⟩
              · have HE := Lib.hid (srow_bad (most := m) (t := t) (ps := ps) (k := (k : Int)) k1 k2)
                have k2b : (kd == 2) = false := by simpa using k2
                clear k1 k2 hL
                go_wp2_with fail
                go_meet
                exact ⟨Lib.hid (by rw [HNX.out, HE.out.1]; exact HR2.out), by rw [HE.out.2.2], by rw [HE.out.2.1]⟩
          case' rest => skip
          obtain ⟨HC, rfl, rfl⟩ := hcut
          have o2 := HC.out.o2
          have o3 := HC.out.o3
          rw [HXL.out] at o2
          rw [HYL.out] at o3
          generalize lineP (t, ps) kd = pp at *
          generalize lineC m (t, ps) kd = cq at *
          go_wp2_with (first
            | (at_builtin; refine wpList_append_later rfl (.tmp 89) (.tmp 91) 33 rfl w.heap.size 3 i0 _ 1 8 Try.underlying33 hi hz0 hz1 hz2 rfl (by decide) _ k _ rfl (o2.alloc _) ⟨wc.heap.size, 0, none⟩ 1 1 [.int .i64 pp] rfl rfl (by intro j u hu; cases j <;> simp at hu; subst hu; go_simp) (by intro u hu; simp at hu; subst hu; rfl) (by simp only [maxLen]; omega) (by omega) (Nat.le_trans HC.out.s (by simp)) ?_; intro v' w1 q g l; have HA := Lib.hid ((HC.out.alloc _).app2 (by rw [HXL.out]; exact q) g l); clear q g l o2 o3; have o3 := HA.out.o3; rw [HYL.out] at o3)
            | (at_builtin; refine wpList_append_later rfl (.tmp 93) (.tmp 95) 23 rfl w.heap.size 5 j0 _ 1 1 Try.underlying23 hj hy0 hy1 hy2 rfl (by decide) _ k _ rfl (o3.alloc _) ⟨w1.heap.size, 0, none⟩ 1 1 [.int .u8 cq] rfl rfl (by intro j u hu; cases j <;> simp at hu; subst hu; go_simp) (by intro u hu; simp at hu; subst hu; rfl) (by simp only [maxLen]; omega) (by omega) (Nat.le_trans HA.out.s (by simp)) ?_; intro v2' w2 q g l; have HA2 := Lib.hid ((HA.out.alloc _).app3 (by rw [HYL.out]; exact q) g l); clear q g l o3))
          go_roundw
          case rel => exact ⟨k + 1, by omega, by go_num, Lib.hid (by rw [HX.out, HY.out, HS1.out]; exact HA2.out)⟩
          case measure => simp [intOf]; omega
        · obtain rfl : n = k := by omega
          clear hlt
          have hr := HR.out
          have o2 := hr.o2
          have o3 := hr.o3
          rw [pairsL_length] at o2
          rw [codesL_length] at o3
          obtain ⟨ap, cp, rfl, rp, _, _⟩ := reads_own o2
          obtain ⟨ac, cc, rfl, rc, _, _⟩ := reads_own o3
          have HRP := Lib.hid rp
          have HRC := Lib.hid rc
          have HB := Lib.hid hr.b
          clear hr o2 o3 rp rc HR
          go_wp2
          go_ret2
          rw [HHN.out]
          exact ⟨ap, cp, ac, cc, rfl, HRP.out, HRC.out, HB.out⟩

set_option maxHeartbeats 3200000 in
theorem refSpared (w : World) (ao : Option Addr) (n cap : Nat) (zs : List Int) (hr : Reads .i64 w ao n zs) (hz : ∀ i, i < n → -1 ≤ zs.getD i 0) (hn : n ≤ 1000000) :
    Calls Try.prog 23 #[.slice ao n cap] w fun e w' => e = .returned (.int .i64 (metN zs)) ∧ w = w' := by
  have HR := Lib.hid hr
  have HZ := Lib.hid hz
  have HL := Lib.hid hr.1
  clear hr hz
  go_enter Try.func23, Try.ntmps23
  go_wp2
  go_loop [3, 4] (fun m i => ∃ k : Nat, k ≤ n ∧ i = .int .i64 k ∧ m = .int .i64 (metN (zs.take k))) (fun _ i => n - (intOf i).toNat)
  case atStart => exact ⟨0, Nat.zero_le _, rfl, rfl⟩
  case round =>
    obtain ⟨k, hk, rfl, rfl⟩ := hrel
    by_cases hlt : k < n
    · obtain ⟨b, off, rfl, bl, hc⟩ := HR.out.2 (by omega)
      have c := hc k hlt
      have hz := HZ.out k hlt
      have hs := metN_take zs k (by rw [HL.out]; exact hlt)
      have hi := metN_in (zs.take k)
      have hi2 : metN (zs.take k) ≤ 1000000 := by have := List.length_take_le k zs; omega
      have i1 : (k : Int) < (n : Int) := by omega
      have hi0 := hi.1
      clear hi hc bl
      generalize zs.getD k 0 = z at *
      generalize metN (zs.take k) = q at *
      by_cases hz1 : z = -1
      · subst hz1
        rw [if_pos rfl] at hs
        have HS := Lib.hid hs
        clear hs
        go_wp2
        go_round
        case rel => exact ⟨k + 1, by omega, by go_num, by rw [HS.out]; go_num⟩
        case measure => simp [intOf]; omega
      · rw [if_neg hz1] at hs
        have HS := Lib.hid hs
        have hz2 : 0 ≤ z := by omega
        clear hs hz1 hz
        go_wp2
        go_round
        case rel => exact ⟨k + 1, by omega, by go_num, by rw [HS.out]⟩
        case measure => simp [intOf]; omega
    · obtain rfl : n = k := by omega
      have HE := Lib.hid (show zs.take n = zs from List.take_of_length_le (by rw [HL.out]; exact Nat.le_refl _))
      clear hlt
      go_wp2
      go_ret
      exact ⟨by rw [HE.out]; rfl, rfl⟩

section
variable {most there : Int} {ks : Nat → Int} {n : Nat}
end

/-- Bools in a block of their own. -/
def BRw (w : World) (b : Nat) (bs : List Bool) : Prop := w.heap[b]? = some (.cells (bs.map Value.bool).toArray 4 (0, 0))
section
variable {w w' : World} {b : Nat} {bs : List Bool}
theorem BRw.lt (h : BRw w b bs) : b < w.heap.size := lt_of_block h
theorem BRw.keep (h : BRw w b bs) (hb : w'.heap[b]? = w.heap[b]?) : BRw w' b bs := hb.trans h
theorem BRw.free (h : BRw w b bs) (j : Nat) : w.frozen? ⟨b, j, none⟩ = false := by unfold BRw at h; simp [World.frozen?, h]
theorem BRw.cell (h : BRw w b bs) {i : Nat} (hi : i < bs.length) : w.cell? ⟨b, i, none⟩ = some (.bool (bs.getD i false)) := by
  unfold BRw at h
  simp [World.cell?, h, List.getD, hi]
theorem BRw.set (h : BRw w b bs) (i : Nat) (x : Bool) : BRw (w.setCell ⟨b, i, none⟩ (.bool x)) b (bs.set i x) := by
  unfold BRw at h ⊢
  rw [heap_setCell_same w b i _ _ _ h]
  simp
end
theorem infoBool : (Try.prog.info? 4).map (fun i => (i.zero, i.size, i.bytes)) = some (some (.bool false), 1, 1) := by kernel_rfl
theorem madeBools {w w1 : World} {n : Nat} (ho : w1.ownsRow w.heap.size 4 1 (.slice (some ⟨w.heap.size, 0, none⟩) n n) n (madeCells (Value.bool false).cells (n * 1)).toList) (hg : w.grownBy w1 none) :
    BRw w1 w.heap.size (List.replicate n false) ∧ Below w.heap.size w w1 := by
  have hr := rowWhole ho
  rw [show (Value.bool false).cells = #[Value.bool false] from rfl, Nat.mul_one, toList_madeCells_one] at hr
  exact ⟨by unfold BRw; rw [hr]; simp, (Below.refl _ _).grown hg (Nat.le_refl _) (by simp)⟩

end Go.Proofs.Ytafocplahmfghaa
