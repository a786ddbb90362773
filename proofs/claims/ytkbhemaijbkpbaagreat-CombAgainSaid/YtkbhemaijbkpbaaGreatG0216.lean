/-
  The order of a batch in plain lists: places, which of them put into a heap, sorted by their values, and then all others. Conditions: none; no Go function is looked at here. What reaperlaw04.Ops makes of bytes. Conditions: bytes. What reaperref04.Most and reaperref04.Do tell: as stkL, stkC and stkV say. Conditions: a list of at most a thousand numbers; a kind of 0 to 255. What reaperref05.Do tells: as dqL, dqC and dqV say. Conditions: a list of at most a thousand numbers; a kind of 0 to 255. What operations of each object do, in plain lists, in an order; a list aside. Conditions: none. Where the document's order of a batch puts one place more, and that this is the order. Conditions: none; no Go function is looked at here. What reaperref08.heap tells: as hpL, hpC and hpV say. Conditions: a list of at most a thousand numbers. What reaperref08.Apply tells: as objL, objC and objV say. Conditions: a list of at most a thousand numbers; a kind of 0 to 255.
-/
import Derived.Test.YtkbhemaijbkpbaaGreatG0116
namespace Go.Proofs.YtkbhemaijbkpbaaGreat

/-- The places 0, 1 and so on. -/
def idx (k : Nat) : List Int := (List.range k).map Int.ofNat
/-- Does the operation in this place put into a heap? -/
def isAdd (obj : Int) (os : List (Int × Int)) (i : Int) : Bool := obj == 3 && (os.getD i.toNat (0, 0)).1 == 1
def addsOf (obj : Int) (os : List (Int × Int)) (k : Nat) : List Int := (idx k).filter (isAdd obj os)
def othersOf (obj : Int) (os : List (Int × Int)) (k : Nat) : List Int := (idx k).filter (fun i => !isAdd obj os i)

theorem idx_succ (k : Nat) : idx (k + 1) = idx k ++ [(k : Int)] := by unfold idx; rw [List.range_succ]; simp
theorem idx_length (k : Nat) : (idx k).length = k := by simp [idx]
theorem mem_idx {k : Nat} {x : Int} : x ∈ idx k ↔ 0 ≤ x ∧ x < k := by
  unfold idx
  simp only [List.mem_map, List.mem_range]
  constructor
  · rintro ⟨i, hi, rfl⟩; simp; omega
  · rintro ⟨h1, h2⟩; exact ⟨x.toNat, by omega, by simp; omega⟩
theorem idx_rise (k : Nat) : (idx k).Pairwise (· < ·) := by
  unfold idx
  rw [List.pairwise_map]
  exact (List.pairwise_lt_range (n := k)).imp (fun h => by simpa using h)
theorem idx_getD {k i : Nat} (h : i < k) : (idx k).getD i 0 = i := by simp [idx, List.getD, h]

section
variable {obj : Int} {os : List (Int × Int)} {k : Nat}
theorem adds_yes (h : isAdd obj os k = true) : addsOf obj os (k + 1) = addsOf obj os k ++ [(k : Int)] ∧ othersOf obj os (k + 1) = othersOf obj os k := by
  unfold addsOf othersOf; rw [idx_succ, List.filter_append, List.filter_append]; simp [h]
theorem adds_no (h : isAdd obj os k = false) : addsOf obj os (k + 1) = addsOf obj os k ∧ othersOf obj os (k + 1) = othersOf obj os k ++ [(k : Int)] := by
  unfold addsOf othersOf; rw [idx_succ, List.filter_append, List.filter_append]; simp [h]
theorem adds_rise (obj : Int) (os : List (Int × Int)) (k : Nat) : Rises k (addsOf obj os k) :=
  ⟨List.Pairwise.filter _ (idx_rise k), fun _ hx => mem_idx.1 (List.mem_filter.1 hx).1⟩
theorem both_perm (obj : Int) (os : List (Int × Int)) (k : Nat) : (addsOf obj os k ++ othersOf obj os k).Perm (idx k) := List.filter_append_perm _ _
theorem both_length (obj : Int) (os : List (Int × Int)) (k : Nat) : (addsOf obj os k).length + (othersOf obj os k).length = k := by
  have := (both_perm obj os k).length_eq
  rw [List.length_append, idx_length] at this
  exact this
theorem adds_none (h : ¬ obj = 3) : addsOf obj os k = [] ∧ othersOf obj os k = idx k := by
  have h1 : ∀ i, isAdd obj os i = false := fun i => by simp [isAdd, h]
  unfold addsOf othersOf
  simp [h1]
end

/-- One more among what is sorted. -/
def insB (key : Int → Int) (x : Int) : List Int → List Int
  | [] => [x]
  | y :: l => if key x < key y ∨ (key x = key y ∧ x ≤ y) then x :: y :: l else y :: insB key x l
def sortB (key : Int → Int) : List Int → List Int
  | [] => []
  | x :: l => insB key x (sortB key l)

theorem insB_perm (key : Int → Int) (x : Int) : ∀ l, (insB key x l).Perm (x :: l)
  | [] => List.Perm.refl _
  | y :: l => by
    unfold insB
    split
    · exact List.Perm.refl _
    · exact (List.Perm.cons y (insB_perm key x l)).trans (List.Perm.swap x y l)
theorem insB_srt {key : Int → Int} {x : Int} : ∀ {l}, Srt key l → Srt key (insB key x l)
  | [], _ => srt_one x
  | y :: l, h => by
    unfold insB
    obtain ⟨h1, h2⟩ := List.pairwise_cons.1 h
    split
    · rename_i c
      exact List.pairwise_cons.2 ⟨fun z hz => by
        rcases List.mem_cons.1 hz with e | e
        · subst e; exact c
        · exact kLe.trans c (h1 z e), h⟩
    · rename_i c
      refine List.pairwise_cons.2 ⟨fun z hz => ?_, insB_srt h2⟩
      rcases List.mem_cons.1 ((insB_perm key x l).mem_iff.1 hz) with e | e
      · subst e; unfold kLe; omega
      · exact h1 z e
theorem sortB_ok (key : Int → Int) : ∀ l, (sortB key l).Perm l ∧ Srt key (sortB key l)
  | [] => ⟨List.Perm.refl _, List.Pairwise.nil⟩
  | x :: l => ⟨(insB_perm key x _).trans (List.Perm.cons x (sortB_ok key l).1), insB_srt (sortB_ok key l).2⟩
/-- Whatever is sorted and has the same is it. -/
theorem sortB_is {key : Int → Int} {l M : List Int} (hp : M.Perm l) (hs : Srt key M) : M = sortB key l := srt_unique hs (sortB_ok key l).2 (hp.trans (sortB_ok key l).1.symm)

/-- The order of the first k operations. -/
def ordK (obj : Int) (os : List (Int × Int)) (k : Nat) : List Int := sortB (keyOf os) (addsOf obj os k) ++ othersOf obj os k
/-- The order of operations. -/
def ordL (obj : Int) (os : List (Int × Int)) : List Int := ordK obj os os.length

theorem ordK_length (obj : Int) (os : List (Int × Int)) (k : Nat) : (ordK obj os k).length = k := by
  unfold ordK
  rw [List.length_append, (sortB_ok _ _).1.length_eq]
  exact both_length obj os k
theorem ordK_perm (obj : Int) (os : List (Int × Int)) (k : Nat) : (ordK obj os k).Perm (idx k) := (List.Perm.append_right _ (sortB_ok _ _).1).trans (both_perm obj os k)
theorem ordL_length (obj : Int) (os : List (Int × Int)) : (ordL obj os).length = os.length := ordK_length _ _ _
theorem ordL_plain {obj : Int} {os : List (Int × Int)} (h : ¬ obj = 3) : ordL obj os = idx os.length := by
  unfold ordL ordK
  obtain ⟨h1, h2⟩ := adds_none (os := os) (k := os.length) h
  rw [h1, h2]
  rfl
theorem mem_ordL {obj : Int} {os : List (Int × Int)} {x : Int} : x ∈ ordL obj os ↔ 0 ≤ x ∧ x < os.length := (ordK_perm obj os os.length).mem_iff.trans mem_idx
theorem ordL_at {obj : Int} {os : List (Int × Int)} {i : Nat} (h : i < os.length) : 0 ≤ (ordL obj os).getD i 0 ∧ (ordL obj os).getD i 0 < os.length :=
  (mem_ordL (obj := obj)).1 (by simp [List.getD, show i < (ordL obj os).length by rw [ordL_length]; exact h])

end Go.Proofs.YtkbhemaijbkpbaaGreat
namespace Go.Proofs.YtkbhemaijbkpbaaGreat
open Go.RowKit

/-- The operation of a byte. -/
def opOf (kinds c : Int) : Int × Int := (1 + c % kinds, c / 8 - 9)
/-- Their cells. -/
def flatO (os : List (Int × Int)) : List Value := os.flatMap fun o => [.int .u8 o.1, .int .i32 o.2]
theorem flatO_length (os : List (Int × Int)) : (flatO os).length = os.length * 2 := by
  induction os with
  | nil => rfl
  | cons o os ih => simp only [flatO, List.flatMap_cons, List.length_append, List.length_cons, List.length_nil] at ih ⊢; omega
theorem flatO_snoc (os : List (Int × Int)) (o : Int × Int) : flatO (os ++ [o]) = flatO os ++ [.int .u8 o.1, .int .i32 o.2] := by simp [flatO]
theorem flatO_at (os : List (Int × Int)) (i : Nat) (hi : i < os.length) : (flatO os)[i * 2]? = some (.int .u8 (os.getD i (0, 0)).1) ∧ (flatO os)[i * 2 + 1]? = some (.int .i32 (os.getD i (0, 0)).2) := by
  induction os generalizing i with
  | nil => simp at hi
  | cons o os ih =>
    cases i with
    | zero => simp [flatO]
    | succ i =>
      have := ih i (by simpa using hi)
      rw [show (i + 1) * 2 = i * 2 + 2 by omega, show i * 2 + 2 + 1 = i * 2 + 1 + 2 by omega]
      simpa [flatO, List.flatMap_cons] using this

/-- The first k operations in a row of one's own. -/
def Opsd (w : World) (kinds : Int) (xs : List Int) (k : Nat) (v : Value) (wr : World) : Prop := wr.ownsRow w.heap.size 38 2 v k (flatO ((xs.take k).map (opOf kinds))) ∧ Below w.heap.size w wr

theorem Opsd.drew {w wr : World} {kinds : Int} {xs : List Int} {k : Nat} {v : Value} (h : Opsd w kinds xs k v wr) : Opsd w kinds xs k v wr.drew := ⟨h.1.drew, below_drewN h.2 1⟩
theorem Opsd.next {w wr w1 : World} {kinds : Int} {xs : List Int} {k : Nat} {v v' : Value} {o : Obj} (h : Opsd w kinds xs k v wr) (hk : k < xs.length)
    (hown : w1.ownsRow w.heap.size 38 2 v' (k + 1) (flatO ((xs.take k).map (opOf kinds)) ++ [.int .u8 (opOf kinds (xs.getD k 0)).1, .int .i32 (opOf kinds (xs.getD k 0)).2])) (hg : (wr.alloc o).grownBy w1 v.ownBlock) : Opsd w kinds xs (k + 1) v' w1 := by
  refine ⟨?_, (h.2.alloc h.2.size o).grown hg (Nat.le_trans h.2.size (by simp)) (fun k e => (h.1.lt k e).1)⟩
  rw [show xs.take (k + 1) = xs.take k ++ [xs.getD k 0] by rw [List.take_succ_eq_append_getElem hk]; simp [List.getD, hk], List.map_append, List.map_cons, List.map_nil, flatO_snoc]
  exact hown

end Go.Proofs.YtkbhemaijbkpbaaGreat
namespace Go.Proofs.YtkbhemaijbkpbaaGreat
open Go.RowKit

/-- What an operation makes of the items. -/
def stkL (most : Int) (zs : List Int) (k x : Int) : List Int :=
  if k = 1 then (if (zs.length : Int) < most then zs ++ [x] else zs) else if k = 2 then zs.dropLast else zs
/-- What it is told: a code. -/
def stkC (most : Int) (zs : List Int) (k : Int) : Int :=
  if k = 1 then (if (zs.length : Int) < most then 1 else 3) else if k = 2 then (if zs = [] then 4 else 2) else 5
/-- What it is told: a value. -/
def stkV (zs : List Int) (k : Int) : Int := if k = 2 then zs.getLastD 0 else 0

/-- Nothing is appended where the source is nil. -/
theorem run_append_nothing {P : Program} (w : World) (base : Nat) (t ty e : TypeId) (i : TypeInfo) (size : Nat) (ht : P.underlying t = some (.slice e)) (hi : P.info? e = some i) (v : Value) (n : Nat) (xs : List Value) (hown : w.ownsRow base e size v n xs) (c : Nat) :
    (Builtin.append_ #[t, t] ty #[v, .slice none 0 c]).run P w = .ok v w := by
  rcases hown.2 with ⟨rfl, rfl⟩ | ⟨g, cap, cur, rfl, _, _, hle, _⟩
  · simp [Builtin.append_, run_underlying ht, sizeOf, typeInfo, hi, Builtin.lenOf, Builtin.firstCells]
  · simp [Builtin.append_, run_underlying ht, sizeOf, typeInfo, hi, Builtin.lenOf, Builtin.firstCells, hle, storeCells]

/-- append to a row of one's own, whatever the source is. -/
theorem wpList_append_src {P : Program} (w : World) {ops : Array Oper} {rest : List Oper} {o : Oper} {a : Act} {Q : Exit → Act → World → Prop} (hgd : o.guard = none) (s x : Operand) (t : TypeId)
    (ho : o.op = .call { callee := .builtin .append, args := #[s, x], argTypes := #[t, t] })
    (base : Nat) (e : TypeId) (i : TypeInfo) (z : Value) (size bytes : Nat) (ht : P.underlying t = some (.slice e)) (hi : P.info? e = some i) (hz : i.zero = some z)
    (hsize : i.size = size) (hby : i.bytes = bytes) (hzs : z.cells.size = size) (hsz : 0 < size)
    (v : Value) (n : Nat) (xs : List Value) (hs : a.eval s = v) (hown : w.ownsRow base e size v n xs)
    (A : Option Addr) (m c : Nat) (news : List Value) (hx : a.eval x = .slice A m c) (hl : news.length = m * size) (hnews : 0 < m → ∃ ad, A = some ad ∧ ∀ j u, news[j]? = some u → w.cell? (ad.add j) = some u) (h1 : ∀ u ∈ news, u.oneCell' = true)
    (h63 : n + m ≤ maxLen) (hbytes : (n + m) * bytes ≤ 140737488355328) (hbase : base ≤ w.heap.size)
    (h : ∀ v' w', w'.ownsRow base e size v' (n + m) (xs ++ news) → w.grownBy w' v.ownBlock → wpList P ops Q rest (a.put o.dst v') w') : wpList P ops Q (o :: rest) a w := by
  cases A with
  | some ad =>
    refine wpList_append_own w hgd s x t ho base e i z size bytes ht hi hz hsize hby hzs hsz v n xs hs hown ad m c news hx hl ?_ h1 h63 hbytes hbase fun v' w' h2 h3 _ => h v' w' h2 h3
    rcases Nat.eq_zero_or_pos m with h0 | h0
    · subst h0
      have hn : news = [] := List.eq_nil_of_length_eq_zero (by simpa using hl)
      subst hn
      intro j u hu
      simp at hu
    · obtain ⟨ad', e', hc⟩ := hnews h0
      injection e' with e'
      subst e'
      exact hc
  | none =>
    have hm : m = 0 := by
      rcases Nat.eq_zero_or_pos m with h0 | h0
      · exact h0
      · obtain ⟨_, e', _⟩ := hnews h0
        cases e'
    subst hm
    have hn : news = [] := List.eq_nil_of_length_eq_zero (by simpa using hl)
    subst hn
    refine wpList_plain hgd fun K hK => ?_
    have hrun := run_append_nothing (P := P) w base t o.type e i size ht hi v n xs hown c
    unfold Oper.wp
    simp [execOp, ho, resolve, invoke, builtin, hs, hx, hrun, Result.andThen]
    exact hK _ _ (h v w (by simpa using hown) ⟨rfl, rfl, rfl, Nat.le_refl _, fun _ _ _ => rfl⟩)

section
variable {w W w1 : World} {ao : Option Addr} {n cap : Nat} {zs : List Int}
end

end Go.Proofs.YtkbhemaijbkpbaaGreat
namespace Go.Proofs.YtkbhemaijbkpbaaGreat
open Go.RowKit

section
variable {w W w1 : World} {ao : Option Addr} {n cap : Nat} {zs : List Int}

end

end Go.Proofs.YtkbhemaijbkpbaaGreat
namespace Go.Proofs.YtkbhemaijbkpbaaGreat
open Go.RowKit Go.Lib

/-- How many stand ahead of the first one that is greater. -/
def fgt (x : Int) : List Int → Nat
  | [] => 0
  | y :: l => if x < y then 0 else fgt x l + 1
/-- What an operation makes of a heap's items. -/
def hpL (most : Int) (zs : List Int) (k x : Int) : List Int := if k = 1 then (if (zs.length : Int) < most then zs.take (fgt x zs) ++ x :: zs.drop (fgt x zs) else zs) else if k = 2 then zs.tail else zs
def hpC (most : Int) (zs : List Int) (k : Int) : Int := if k = 1 then (if (zs.length : Int) < most then 1 else 3) else if k = 2 then (if zs = [] then 4 else 2) else 5
def hpV (zs : List Int) (k : Int) : Int := if k = 2 then zs.headD 0 else 0
/-- Of any object. -/
def objL (obj most : Int) (zs : List Int) (k x : Int) : List Int := if obj = 1 then stkL most zs k x else if obj = 2 then dqL most zs k x else if obj = 3 then hpL most zs k x else zs
def objC (obj most : Int) (zs : List Int) (k : Int) : Int := if obj = 1 then stkC most zs k else if obj = 2 then dqC most zs k else if obj = 3 then hpC most zs k else 5
def objV (obj : Int) (zs : List Int) (k : Int) : Int := if obj = 1 then stkV zs k else if obj = 2 then dqV zs k else if obj = 3 then hpV zs k else 0

/-- What operations make of the items, and what they are told. -/
def runZ (obj most : Int) (zs : List Int) (os : List (Int × Int)) : List Int := os.foldl (fun l o => objL obj most l o.1 o.2) zs
def runT (obj most : Int) : List Int → List (Int × Int) → List (Int × Int)
  | _, [] => []
  | zs, o :: os => (objC obj most zs o.1, objV obj zs o.1) :: runT obj most (objL obj most zs o.1 o.2) os

theorem runZ_snoc (obj most : Int) (zs : List Int) (os : List (Int × Int)) (o : Int × Int) : runZ obj most zs (os ++ [o]) = objL obj most (runZ obj most zs os) o.1 o.2 := by simp [runZ]
theorem runT_snoc (obj most : Int) (o : Int × Int) : ∀ (os : List (Int × Int)) (zs : List Int), runT obj most zs (os ++ [o]) = runT obj most zs os ++ [(objC obj most (runZ obj most zs os) o.1, objV obj (runZ obj most zs os) o.1)]
  | [], zs => rfl
  | p :: os, zs => by
    show _ :: runT obj most (objL obj most zs p.1 p.2) (os ++ [o]) = _
    rw [runT_snoc obj most o os]
    rfl
theorem runT_length (obj most : Int) : ∀ (os : List (Int × Int)) (zs : List Int), (runT obj most zs os).length = os.length
  | [], _ => rfl
  | _ :: os, zs => by simp [runT, runT_length obj most os]

section
variable {o : Int × Int}
theorem take_op8 (os : List (Int × Int)) (k : Nat) (h : k < os.length) (e : os.getD k (0, 0) = o) : os.take (k + 1) = os.take k ++ [o] := by
  rw [List.take_succ_eq_append_getElem h, ← e]; simp [List.getD, h]

end
section
variable {w : World} {ao : Option Addr} {n cap : Nat} {os : List (Int × Int)}
end
theorem runT_append (obj m : Int) (b : List (Int × Int)) : ∀ (a : List (Int × Int)) (zs : List Int), runT obj m zs (a ++ b) = runT obj m zs a ++ runT obj m (runZ obj m zs a) b
  | [], zs => rfl
  | o :: a, zs => by
    show _ :: runT obj m (objL obj m zs o.1 o.2) (a ++ b) = _
    rw [runT_append obj m b a]
    rfl

/-- The operations by their order. -/
def ordO (obj : Int) (os : List (Int × Int)) : List (Int × Int) := (ordL obj os).map (fun i => os.getD i.toNat (0, 0))
theorem ordO_length (obj : Int) (os : List (Int × Int)) : (ordO obj os).length = os.length := by simp [ordO, ordL_length]
theorem ordO_at {obj : Int} {os : List (Int × Int)} {i : Nat} (h : i < os.length) : (ordO obj os).getD i (0, 0) = os.getD ((ordL obj os).getD i 0).toNat (0, 0) := by
  have hl : i < (ordL obj os).length := by rw [ordL_length]; exact h
  simp [ordO, List.getD, hl]
/-- What is told, put into its own places, of the first k. -/
def placeK (l : List Int) (t : List (Int × Int)) (n : Nat) : Nat → List (Int × Int)
  | 0 => List.replicate n (0, 0)
  | k + 1 => (placeK l t n k).set (l.getD k 0).toNat (t.getD k (0, 0))
theorem placeK_length (l : List Int) (t : List (Int × Int)) (n : Nat) : ∀ k, (placeK l t n k).length = n
  | 0 => by simp [placeK]
  | k + 1 => by simp [placeK, placeK_length l t n k]
/-- What a batch leaves, and tells. -/
def batZ (obj m : Int) (zs : List Int) (os : List (Int × Int)) : List Int := runZ obj m zs (ordO obj os)
def batT (obj m : Int) (zs : List Int) (os : List (Int × Int)) : List (Int × Int) := placeK (ordL obj os) (runT obj m zs (ordO obj os)) os.length os.length
theorem batT_length (obj m : Int) (zs : List Int) (os : List (Int × Int)) : (batT obj m zs os).length = os.length := placeK_length _ _ _ _

/-- A list, none of whose cells lies in a block. -/
def Aside (a : Option Addr) (n : Nat) (g : Option Nat) : Prop := 0 < n → ∀ x, a = some x → g ≠ some x.block

end Go.Proofs.YtkbhemaijbkpbaaGreat
namespace Go.Proofs.YtkbhemaijbkpbaaGreat

end Go.Proofs.YtkbhemaijbkpbaaGreat
namespace Go.Proofs.YtkbhemaijbkpbaaGreat
open Go.RowKit

section
variable {w W w1 : World} {ao : Option Addr} {n cap : Nat} {zs : List Int}

/-- Rows of one's own that grow behind memory W. -/
def Grow (W w1 : World) (v : Value) (m : Nat) (xs : List Value) : Prop := w1.ownsRow W.heap.size 21 1 v m xs ∧ Below W.heap.size W w1
theorem Grow.one {wr : World} {v : Value} {m : Nat} {xs : List Value} (hb : Below W.heap.size W wr) (q : w1.ownsRow W.heap.size 21 1 v (0 + m) ([] ++ xs)) (g : wr.grownBy w1 (Value.ownBlock (.slice none 0 0))) : Grow W w1 v m xs := by
  rw [Nat.zero_add, List.nil_append] at q
  exact ⟨q, hb.grown g hb.size (fun k e => by cases e)⟩
theorem Grow.more {w2 : World} {v v2 : Value} {m m2 : Nat} {xs ys : List Value} (h : Grow W w1 v m xs) (q : w2.ownsRow W.heap.size 21 1 v2 m2 ys) (g : w1.grownBy w2 v.ownBlock) : Grow W w2 v2 m2 ys :=
  ⟨q, h.2.grown g h.2.size (fun k e => (h.1.lt k e).1)⟩
theorem Grow.box {w2 : World} {v v2 : Value} {m m2 : Nat} {xs ys : List Value} {o : Obj} (h : Grow W w1 v m xs) (q : w2.ownsRow W.heap.size 21 1 v2 m2 ys) (g : (w1.alloc o).grownBy w2 v.ownBlock) : Grow W w2 v2 m2 ys :=
  ⟨q, (h.2.alloc h.2.size o).grown g (Nat.le_trans h.2.size (by simp)) (fun k e => (h.1.lt k e).1)⟩

end

end Go.Proofs.YtkbhemaijbkpbaaGreat
namespace Go.Proofs.YtkbhemaijbkpbaaGreat
open Go.RowKit Go.Lib

section
variable {w W w1 : World} {ao : Option Addr} {n cap : Nat} {zs : List Int}

end

section
variable {w : World} {ao : Option Addr} {n cap : Nat} {zs : List Int}

end

end Go.Proofs.YtkbhemaijbkpbaaGreat
