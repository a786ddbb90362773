/-
  What Stale of package list tells. Conditions: a memory as Mem1 says. What Sound of package list tells. Conditions: a memory as Mem1 says. What Records and Waiting of package list tell. Conditions: a memory as Mem1 says. Records that hang together (reaperlaw14.Chain), in plain lists. Conditions: none. Cells of choices (reaperlaw13.Cells): a list of int64 of one's own, of at most forty numbers. Conditions: bytes, at most 200 of them. What reaperlaw14.Chain tells: records that hang together. Conditions: at most 2^47 bytes. What records that hang together come to, and what they come to where one cell is another, in plain lists. Conditions: none. What Reach and Records of package list tell. Conditions: a memory as Mem1 says. What the document's own records (package reaperref13) tell: Base, Open, Many, Nth, See; each makes new memory alone. Conditions: at most 1000 cells. What the document's own See and Open (package reaperref13) tell; each makes new memory alone. Conditions: at most 1000 cells. What the document's own Place, Reach and Records (package reaperref14) tell. Conditions: at most 1000 cells.
-/
import Derived.Test.YtfnjbbokbdddpaaG0417
import Derived.Test.YtfnjbbokbdddpaaG0317
import Derived.Test.YtfnjbbokbdddpaaG0217
import Derived.Deep.CutRange
import Derived.Deep.RegionHeld3
import Derived.BigQuiet
namespace Go.Proofs.Ytfnjbbokbdddpaa.M2
open Go.RowKit Go.Shelf

attribute [local go_sem] Oper.semAt_some

def oldAt (zs : List Int) (ps : List Nat) (age : Int) (i : Nat) : Bool := decide (1 ≤ i) && oldB (zs.getD (ps.getD i 0) 0) (zs.getD (ps.getD i 0 + 1) 0) (zs.getD (ps.getD i 0 + 2) 0) (zs.getD 2 0) age
def staleK (zs : List Int) (ps : List Nat) (age : Int) (k : Nat) : List Int := ((List.range k).filter (oldAt zs ps age)).map (fun i => ((ps.getD i 0 : Nat) : Int))
theorem staleK_yes {zs : List Int} {ps : List Nat} {age : Int} {k : Nat} (h : oldAt zs ps age k = true) : staleK zs ps age k ++ [((ps.getD k 0 : Nat) : Int)] = staleK zs ps age (k + 1) := by
  simp only [staleK, List.range_succ, List.filter_append, List.map_append, List.filter_cons, h, if_true, List.filter_nil, List.map_cons, List.map_nil]
theorem staleK_no {zs : List Int} {ps : List Nat} {age : Int} {k : Nat} (h : oldAt zs ps age k = false) : staleK zs ps age (k + 1) = staleK zs ps age k := by
  simp only [staleK, List.range_succ, List.filter_append, List.map_append, List.filter_cons, h, Bool.false_eq_true, if_false, List.filter_nil, List.map_nil, List.append_nil]
theorem staleK_len (zs : List Int) (ps : List Nat) (age : Int) (k : Nat) : (staleK zs ps age k).length ≤ k := by
  unfold staleK
  rw [List.length_map]
  exact Nat.le_trans (List.length_filter_le _ _) (by simp)

section
variable {W W' : World} {wb mb g3 g6 g7 : Nat} {age pass : Int}
end

section
variable {w : World} {B p : Nat} {size st : Int} {zs : List Int} {ps : List Nat} {lost : Bool}

end

end Go.Proofs.Ytfnjbbokbdddpaa.M2
namespace Go.Proofs.Ytfnjbbokbdddpaa.M2
open Go.RowKit Go.Shelf

attribute [local go_sem] Oper.semAt_some

def idleK (zs : List Int) (ps : List Nat) (k : Nat) : Bool := (ps.take k).any (fun a => decide (zs.getD (a + 1) 0 = 0))
def goneB (zs : List Int) (ps : List Nat) (j : Nat) : Bool := !decide (3 + 5 * j ∈ ps) && (decide (zs.getD (3 + 5 * j + 1) 0 = 1) && !decide (zs.getD (3 + 5 * j) 0 = -1))
def goneK (zs : List Int) (ps : List Nat) (k : Nat) : Bool := (List.range k).any (goneB zs ps)
theorem goneK_next (zs : List Int) (ps : List Nat) (k : Nat) : goneK zs ps (k + 1) = (goneK zs ps k || goneB zs ps k) := by
  unfold goneK
  rw [List.range_succ, List.any_append]
  simp
theorem goneK_yes {zs : List Int} {ps : List Nat} {k n : Nat} (h : goneB zs ps k = true) (hk : k < n) : goneK zs ps n = true := by
  unfold goneK
  rw [List.any_eq_true]
  exact ⟨k, by simpa using hk, h⟩
def soundV (zs : List Int) (ps : List Nat) (lost : Bool) : Int := if lost then 30 else if idleK zs ps ps.length then 33 else if goneK zs ps (mn zs.length) then 31 else 0

section
variable {w W W' : World} {B p wb mb cb g2 g3 g4 D : Nat} {size st : Int} {zs : List Int} {ps : List Nat} {lost : Bool}

end

end Go.Proofs.Ytfnjbbokbdddpaa.M2
namespace Go.Proofs.Ytfnjbbokbdddpaa.M2
open Go.RowKit Go.Shelf

attribute [local go_sem] Oper.semAt_some

def recK (k : Nat) : List Int := (List.range k).map (fun j : Nat => 3 + 5 * (j : Int))
theorem recK_next (k : Nat) : recK k ++ [3 + 5 * (k : Int)] = recK (k + 1) := by simp [recK, List.range_succ]
theorem recK_len (k : Nat) : (recK k).length = k := by simp [recK]
section
variable {w : World} {B p : Nat} {size st : Int} {zs : List Int}

end

end Go.Proofs.Ytfnjbbokbdddpaa.M2
namespace Go.Proofs.Ytfnjbbokbdddpaa.M2
open Go.RowKit

structure Os (n : Nat) (os : List Nat) : Prop where
  isr : ∀ a ∈ os, ∃ j, j < n ∧ a = 3 + 5 * j
  nod : os.Nodup

theorem getD_mem {os : List Nat} {t : Nat} (h : t < os.length) : os.getD t 0 ∈ os := by simp [List.getD, h]
theorem Os.at {n : Nat} {os : List Nat} (h : Os n os) {t : Nat} (ht : t < os.length) : ∃ j, j < n ∧ os.getD t 0 = 3 + 5 * j := h.isr _ (getD_mem ht)
theorem Os.ne {n : Nat} {os : List Nat} (h : Os n os) {s t : Nat} (hs : s < os.length) (ht : t < os.length) (hne : s ≠ t) : os.getD s 0 ≠ os.getD t 0 := by
  intro e
  simp only [List.getD_eq_getElem?_getD, List.getElem?_eq_getElem hs, List.getElem?_eq_getElem ht, Option.getD_some] at e
  exact hne ((List.getElem_inj h.nod).1 e)
theorem Os.new {n : Nat} {os : List Nat} (h : Os n os) {k : Nat} (hk : k < os.length) : os.getD k 0 ∉ os.take k := by
  intro hm
  obtain ⟨t, ht, e⟩ := List.mem_iff_getElem.1 hm
  rw [List.length_take] at ht
  have : os.getD t 0 = os.getD k 0 := by rw [← e]; simp [List.getD, show t < os.length by omega]
  exact h.ne (by omega) hk (by omega) this
theorem Os.take {n : Nat} {os : List Nat} (h : Os n os) (k : Nat) : Os n (os.take k) := ⟨fun a ha => h.isr a (List.mem_of_mem_take ha), h.nod.sublist (List.take_sublist _ _)⟩
theorem order_next {od : List Nat} {k t : Nat} (h : od.Perm ((List.range k).map (fun j => 3 + 5 * j))) : (od.take t ++ [3 + 5 * k] ++ od.drop t).Perm ((List.range (k + 1)).map (fun j => 3 + 5 * j)) := by
  have h1 : (od.take t ++ [3 + 5 * k] ++ od.drop t).Perm ((3 + 5 * k) :: od) := by
    rw [List.append_assoc, List.singleton_append]
    have := List.perm_middle (a := 3 + 5 * k) (l₁ := od.take t) (l₂ := od.drop t)
    rwa [List.take_append_drop] at this
  refine h1.trans ?_
  rw [List.range_succ, List.map_append, List.map_singleton]
  refine (h.cons _).trans ?_
  exact (List.perm_append_singleton _ _).symm
theorem order_len {od : List Nat} {k : Nat} (h : od.Perm ((List.range k).map (fun j => 3 + 5 * j))) : od.length = k := by
  have := h.length_eq
  simpa using this
theorem order_os {od : List Nat} {n : Nat} (h : od.Perm ((List.range n).map (fun j => 3 + 5 * j))) : Os n od := by
  refine ⟨fun a ha => ?_, h.nodup_iff.2 ?_⟩
  · obtain ⟨j, hj, e⟩ := List.mem_map.1 (h.mem_iff.1 ha)
    exact ⟨j, by simpa using hj, e.symm⟩
  · exact List.Pairwise.map _ (fun a b hab => by have : a ≠ b := hab; show 3 + 5 * a ≠ 3 + 5 * b; omega) List.nodup_range

structure ChK (n : Nat) (os : List Nat) (k : Nat) (zs : List Int) : Prop where
  len : zs.length = 3 + 5 * n
  z2 : zs.getD 2 0 = 50
  z1 : zs.getD 1 0 = if k = 0 then 0 else ((os.getD 0 0 : Nat) : Int)
  rq : ∀ j, j < n → zs.getD (3 + 5 * j) 0 = 0
  ac : ∀ j, j < n → zs.getD (3 + 5 * j + 1) 0 = if 3 + 5 * j ∈ os.take k then 1 else 0
  ag : ∀ j, j < n → 0 ≤ zs.getD (3 + 5 * j + 2) 0 ∧ zs.getD (3 + 5 * j + 2) 0 ≤ 255
  nx : ∀ t, t + 1 < k → zs.getD (os.getD t 0 + 3) 0 = ((os.getD (t + 1) 0 : Nat) : Int)
  nz : ∀ j, j < n → 3 + 5 * j ∉ os.take (k - 1) → zs.getD (3 + 5 * j + 3) 0 = 0
  big : ∀ z ∈ zs, z ≤ 1000

theorem big_set {zs : List Int} {a : Nat} {x : Int} (h : ∀ z ∈ zs, z ≤ 1000) (hx : x ≤ 1000) : ∀ z ∈ zs.set a x, z ≤ 1000 := by
  intro z hz
  rcases List.mem_or_eq_of_mem_set hz with hz | rfl
  · exact h z hz
  · exact hx

theorem ChK.start (n : Nat) (os : List Nat) : ChK n os 0 ((List.replicate (3 + 5 * n) 0).set 2 50) := by
  have hr : ∀ i, (List.replicate (3 + 5 * n) (0 : Int)).getD i 0 = 0 := by
    intro i
    by_cases hi : i < 3 + 5 * n
    · simp [List.getD, hi]
    · simp [List.getD, Nat.le_of_not_lt hi]
  refine ⟨by simp, ?_, ?_, fun j _ => ?_, fun j _ => ?_, fun j _ => ?_, fun t ht => by omega, fun j _ _ => ?_, big_set (fun z hz => by have := (List.mem_replicate.1 hz).2; omega) (by omega)⟩
  · rw [getD_set, if_pos (by simp; omega)]
  · rw [getD_set, if_neg (by omega), hr]; rfl
  · rw [getD_set, if_neg (by omega), hr]
  · rw [getD_set, if_neg (by omega), hr]; simp
  · rw [getD_set, if_neg (by omega), hr]; omega
  · rw [getD_set, if_neg (by omega), hr]

theorem ChK.age {n : Nat} {os : List Nat} {k q : Nat} {zs : List Int} {g : Int} (h : ChK n os k zs) (hn : n ≤ 100) (hos : Os n os) (hk : k ≤ os.length) (hq : q < n) (g0 : 0 ≤ g) (g1 : g ≤ 255) : ChK n os k (zs.set (3 + 5 * q + 2) g) := by
  refine ⟨by rw [List.length_set]; exact h.len, ?_, ?_, fun j hj => ?_, fun j hj => ?_, fun j hj => ?_, fun t ht => ?_, fun j hj hm => ?_, big_set h.big (by omega)⟩
  · rw [getD_set, if_neg (by omega)]; exact h.z2
  · rw [getD_set, if_neg (by omega)]; exact h.z1
  · rw [getD_set, if_neg (by omega)]; exact h.rq j hj
  · rw [getD_set, if_neg (by omega)]; exact h.ac j hj
  · rw [getD_set]
    split
    · omega
    · exact h.ag j hj
  · obtain ⟨j, _, e⟩ := hos.at (t := t) (by omega)
    rw [getD_set, if_neg (by omega)]; exact h.nx t ht
  · rw [getD_set, if_neg (by omega)]; exact h.nz j hj hm

def hang (os : List Nat) (k : Nat) (zs : List Int) : List Int := if k = 0 then zs.set 1 ((os.getD 0 0 : Nat) : Int) else zs.set (os.getD (k - 1) 0 + 3) ((os.getD k 0 : Nat) : Int)
theorem hang_len (os : List Nat) (k : Nat) (zs : List Int) : (hang os k zs).length = zs.length := by unfold hang; split <;> simp

theorem ChK.go {n : Nat} {os : List Nat} {k : Nat} {zs : List Int} (h : ChK n os k zs) (hn : n ≤ 100) (hos : Os n os) (hk : k < os.length) : ChK n os (k + 1) ((hang os k zs).set (os.getD k 0 + 1) 1) := by
  obtain ⟨q, hq, eq⟩ := hos.at hk
  have hl := h.len
  have hnew := hos.new hk
  have hL : (hang os k zs).length = 3 + 5 * n := by rw [hang_len, hl]
  -- a cell that is none of the two
  have hh : ∀ i, i ≠ 1 → (∀ j, j < n → i ≠ 3 + 5 * j + 3) → (hang os k zs).getD i 0 = zs.getD i 0 := by
    intro i h1 h2
    unfold hang
    split
    · rw [getD_set, if_neg (by omega)]
    · obtain ⟨r, hr, er⟩ := hos.at (t := k - 1) (by omega)
      have := h2 r hr
      rw [getD_set, if_neg (by omega)]
  have hother : ∀ i, i ≠ 1 → (∀ j, j < n → i ≠ 3 + 5 * j + 3) → i ≠ 3 + 5 * q + 1 → ((hang os k zs).set (os.getD k 0 + 1) 1).getD i 0 = zs.getD i 0 := by
    intro i h1 h2 h3
    rw [getD_set, if_neg (by omega), hh i h1 h2]
  refine ⟨by rw [List.length_set, hL], ?_, ?_, fun j hj => ?_, fun j hj => ?_, fun j hj => ?_, fun t ht => ?_, fun j hj hm => ?_, ?_⟩
  · rw [hother 2 (by omega) (fun j _ => by omega) (by omega)]; exact h.z2
  · rw [getD_set, if_neg (by omega), if_neg (by omega)]
    unfold hang
    split
    · rw [getD_set, if_pos (by omega)]
    · rename_i hk0
      obtain ⟨r, hr, er⟩ := hos.at (t := k - 1) (by omega)
      rw [getD_set, if_neg (by omega), h.z1, if_neg hk0]
  · rw [hother _ (by omega) (fun j _ => by omega) (by omega)]; exact h.rq j hj
  · by_cases e : j = q
    · subst e
      rw [getD_set, if_pos (by omega), if_pos (by rw [take_next hk, eq]; simp)]
    · rw [hother _ (by omega) (fun j _ => by omega) (by omega), h.ac j hj]
      have : (3 + 5 * j ∈ os.take (k + 1)) ↔ 3 + 5 * j ∈ os.take k := by
        rw [take_next hk, List.mem_append, List.mem_singleton]
        constructor
        · rintro (h | h)
          · exact h
          · omega
        · exact .inl
      simp only [this]
  · rw [hother _ (by omega) (fun j _ => by omega) (by omega)]; exact h.ag j hj
  · obtain ⟨r, hr, er⟩ := hos.at (t := t) (by omega)
    rw [getD_set, if_neg (by omega)]
    unfold hang
    split
    · omega
    · obtain ⟨r2, hr2, er2⟩ := hos.at (t := k - 1) (by omega)
      by_cases e : t = k - 1
      · subst e
        rw [getD_set, if_pos (by omega), show k - 1 + 1 = k by omega]
      · have := hos.ne (s := t) (t := k - 1) (by omega) (by omega) e
        rw [getD_set, if_neg (by omega)]
        exact h.nx t (by omega)
  · rw [getD_set, if_neg (by omega)]
    rw [Nat.add_sub_cancel] at hm
    unfold hang
    split
    · rename_i hk0
      rw [getD_set, if_neg (by omega)]
      exact h.nz j hj (by rw [hk0]; simp)
    · obtain ⟨r, hr, er⟩ := hos.at (t := k - 1) (by omega)
      have hne : 3 + 5 * j ≠ os.getD (k - 1) 0 := by
        intro e
        apply hm
        rw [e]
        have ht := take_next (ps := os) (k := k - 1) (by omega)
        rw [show k - 1 + 1 = k by omega] at ht
        rw [ht]; simp
      rw [getD_set, if_neg (by omega)]
      refine h.nz j hj (fun hm2 => hm ?_)
      have ht := take_next (ps := os) (k := k - 1) (by omega)
      rw [show k - 1 + 1 = k by omega] at ht
      rw [ht, List.mem_append]
      exact .inl hm2
  · refine big_set ?_ (by omega)
    unfold hang
    split
    · obtain ⟨r, hr, er⟩ := hos.at (t := 0) (by omega)
      exact big_set h.big (by omega)
    · exact big_set h.big (by omega)

end Go.Proofs.Ytfnjbbokbdddpaa.M2
namespace Go.Proofs.Ytfnjbbokbdddpaa.M2
open Go.RowKit

end Go.Proofs.Ytfnjbbokbdddpaa.M2
namespace Go.Proofs.Ytfnjbbokbdddpaa.M2
open Go.RowKit

theorem run_append_nothing {P : Program} (w : World) (base : Nat) (t ty e : TypeId) (i : TypeInfo) (size : Nat) (ht : P.underlying t = some (.slice e)) (hi : P.info? e = some i) (v : Value) (n : Nat) (xs : List Value) (hown : w.ownsRow base e size v n xs) (c : Nat) :
    (Builtin.append_ #[t, t] ty #[v, .slice none 0 c]).run P w = .ok v w := by
  rcases hown.2 with ⟨rfl, rfl⟩ | ⟨g, cap, cur, rfl, _, _, hle, _⟩
  · simp [Builtin.append_, run_underlying ht, sizeOf, typeInfo, hi, Builtin.lenOf, Builtin.firstCells]
  · simp [Builtin.append_, run_underlying ht, sizeOf, typeInfo, hi, Builtin.lenOf, Builtin.firstCells, hle, storeCells]

theorem wpList_append_src {P : Program} (w : World) {ops : Array Oper} {rest : List Oper} {o : Oper} {a : Act} {Q : Exit → Act → World → Prop} (hgd : o.guard = none) (s x : Operand) (t : TypeId)
    (ho : o.op = .call { callee := .builtin .append, args := #[s, x], argTypes := #[t, t] })
    (base : Nat) (e : TypeId) (i : TypeInfo) (z : Value) (size bytes : Nat) (ht : P.underlying t = some (.slice e)) (hi : P.info? e = some i) (hz : i.zero = some z)
    (hsize : i.size = size) (hby : i.bytes = bytes) (hzs : z.cells.size = size) (hsz : 0 < size)
    (v : Value) (n : Nat) (xs : List Value) (hs : a.eval s = v) (hown : w.ownsRow base e size v n xs)
    (A : Option Addr) (m c : Nat) (news : List Value) (hx : a.eval x = .slice A m c) (hl : news.length = m * size) (hnews : 0 < m → ∃ ad, A = some ad ∧ ∀ j u, news[j]? = some u → w.cell? (ad.add j) = some u) (h1 : ∀ u ∈ news, u.oneCell' = true)
    (h63 : n + m ≤ maxLen) (hbytes : (n + m) * bytes ≤ 140737488355328) (hbase : base ≤ w.heap.size)
    (h : ∀ v' w', w'.ownsRow base e size v' (n + m) (xs ++ news) → w.grownBy w' v.ownBlock → wpList P ops Q rest (a.put o.dst v') w') : wpList P ops Q (o :: rest) a w := by
  cases A with
  | some ad =>
    refine wpList_append_own w hgd s x t ho base e i z size bytes ht hi hz hsize hby hzs hsz v n xs hs hown ad m c news hx hl ?_ h1 h63 hbytes hbase fun v' w' h2 h3 _ => h v' w' h2 h3
    rcases Nat.eq_zero_or_pos m with h0 | h0
    · subst h0
      have hn : news = [] := List.eq_nil_of_length_eq_zero (by simpa using hl)
      subst hn
      intro j u hu
      simp at hu
    · obtain ⟨ad', e', hc⟩ := hnews h0
      injection e' with e'
      subst e'
      exact hc
  | none =>
    have hm : m = 0 := by
      rcases Nat.eq_zero_or_pos m with h0 | h0
      · exact h0
      · obtain ⟨_, e', _⟩ := hnews h0
        cases e'
    subst hm
    have hn : news = [] := List.eq_nil_of_length_eq_zero (by simpa using hl)
    subst hn
    refine wpList_plain hgd fun K hK => ?_
    have hrun := run_append_nothing (P := P) w base t o.type e i size ht hi v n xs hown c
    unfold Oper.wp
    simp [execOp, ho, resolve, invoke, builtin, hs, hx, hrun, Result.andThen]
    exact hK _ _ (h v w (by simpa using hown) ⟨rfl, rfl, rfl, Nat.le_refl _, fun _ _ _ => rfl⟩)

theorem src_take {W : World} {g k t : Nat} {od : List Nat} (h : ∀ i, i < k → W.cell? ⟨g, i, none⟩ = some (.int .i64 ((od.getD i 0 : Nat) : Int))) (hk : od.length = k) (ht : t ≤ k) :
    0 < t → ∃ ad, some (⟨g, 0, none⟩ : Addr) = some ad ∧ ∀ j u, ((ints (od.take t)).map (Value.int .i64))[j]? = some u → W.cell? (ad.add j) = some u := by
  refine fun _ => ⟨_, rfl, fun j u hu => ?_⟩
  rw [Addr.add_lit, Nat.zero_add]
  simp only [ints, List.getElem?_map, List.getElem?_take] at hu
  by_cases hj : j < t
  · rw [if_pos hj] at hu
    have hjk : j < od.length := by omega
    rw [h j (by omega)]
    simp only [List.getElem?_eq_getElem hjk, Option.map_some, Option.some.injEq] at hu
    rw [← hu]
    simp [List.getD, hjk]
  · rw [if_neg hj] at hu
    simp at hu
theorem src_drop {W : World} {g k t : Nat} {od : List Nat} (h : ∀ i, i < k → W.cell? ⟨g, i, none⟩ = some (.int .i64 ((od.getD i 0 : Nat) : Int))) (hk : od.length = k) (_ : t ≤ k) :
    0 < k - t → ∃ ad, some (⟨g, t, none⟩ : Addr) = some ad ∧ ∀ j u, ((ints (od.drop t)).map (Value.int .i64))[j]? = some u → W.cell? (ad.add j) = some u := by
  refine fun _ => ⟨_, rfl, fun j u hu => ?_⟩
  rw [Addr.add_lit]
  simp only [ints, List.getElem?_map, List.getElem?_drop] at hu
  by_cases hj : t + j < k
  · have hjk : t + j < od.length := by omega
    rw [h (t + j) hj]
    simp only [List.getElem?_eq_getElem hjk, Option.map_some, Option.some.injEq] at hu
    rw [← hu]
    simp [List.getD, hjk]
  · rw [List.getElem?_eq_none (by omega)] at hu
    simp at hu

theorem src_dropIf {W : World} {g k t cap : Nat} {od : List Nat} (h : ∀ i, i < k → W.cell? ⟨g, i, none⟩ = some (.int .i64 ((od.getD i 0 : Nat) : Int))) (hk : od.length = k) (ht : t ≤ k) (hc : k ≤ cap) :
    0 < k - t → ∃ ad, (if cap = t then some (⟨g, 0, none⟩ : Addr) else some ⟨g, t, none⟩) = some ad ∧ ∀ j u, ((ints (od.drop t)).map (Value.int .i64))[j]? = some u → W.cell? (ad.add j) = some u := by
  intro h0
  rw [if_neg (by omega)]
  exact src_drop h hk ht h0

def XR (wr : World) (v : Value) (ys : List Nat) (W : World) : Prop := W.ownsRow wr.heap.size 3 1 v ys.length ((ints ys).map (Value.int .i64)) ∧ Below wr.heap.size wr W
theorem XR.nil (wr : World) : XR wr (.slice none 0 0) [] wr := ⟨World.ownsRow_nil _ _ _ _, Below.refl _ _⟩
theorem XR.row {wr W : World} {v : Value} {ys : List Nat} (h : XR wr v ys W) (g : Nat) (hg : v.ownBlock = some g) : wr.heap.size ≤ g := by
  have h1 := h.1
  rw [← ints_len] at h1
  obtain ⟨_, _, h3⟩ := LB.row h1 g hg
  exact h3
theorem XR.next {wr W W' V : World} {v v' : Value} {ys nw : List Nat} {m : Nat} (h : XR wr v ys W) (hV : Below wr.heap.size W V) (q : W'.ownsRow wr.heap.size 3 1 v' (ys.length + m) ((ints ys).map (Value.int .i64) ++ (ints nw).map (Value.int .i64))) (hm : nw.length = m) (g : V.grownBy W' v.ownBlock) : XR wr v' (ys ++ nw) W' := by
  refine ⟨?_, (h.2.trans hV).grown g (h.2.trans hV).size (fun b e => h.row b e)⟩
  rw [List.length_append, hm]
  simpa [ints] using q

theorem ownBase {w : World} {a b : Nat} {v : Value} {k : Nat} {xs : List Value} (h : w.ownsRow b 3 1 v k xs) (hab : a ≤ b) : w.ownsRow a 3 1 v k xs := by
  refine ⟨h.1, ?_⟩
  rcases h.2 with h' | ⟨g, cap, cur, h1, hb, h3⟩
  · exact .inl h'
  · exact .inr ⟨g, cap, cur, h1, Nat.le_trans hab hb, h3⟩

theorem rowCells {w : World} {b g k cap : Nat} {od : List Nat} (h : w.ownsRow b 3 1 (.slice (some ⟨g, 0, none⟩) k cap) k ((ints od).map (Value.int .i64))) (hk : od.length = k) : (∀ i, i < k → w.cell? ⟨g, i, none⟩ = some (.int .i64 ((od.getD i 0 : Nat) : Int))) ∧ k ≤ cap := by
  obtain ⟨ao, cp, e, hr, hc, _⟩ := _root_.Go.Proofs.Ytfnjbbokbdddpaa.reads_own h
  simp only [Value.slice.injEq] at e
  obtain ⟨rfl, _, rfl⟩ := e
  refine ⟨fun i hi => ?_, hc⟩
  obtain ⟨b', o', e', _, hcell⟩ := hr.2 (by omega)
  simp only [Option.some.injEq, Addr.mk.injEq] at e'
  obtain ⟨rfl, rfl, _⟩ := e'
  have := hcell i hi
  rw [Nat.zero_add] at this
  rw [this]
  have hi2 : i < od.length := by omega
  simp [ints, List.getD, hi2]

theorem VR.set {w : World} {g i : Nat} {vs : List Int} (h : VR w g vs) (x : Int) : VR (w.setCell ⟨g, i, none⟩ (.int .i64 x)) g (vs.set i x) := by
  unfold VR at h ⊢
  rw [heap_setCell_same w g i _ _ _ h]
  simp
theorem VR.made {w w1 : World} {n : Nat} (ho : w1.ownsRow w.heap.size 2 1 (.slice (some ⟨w.heap.size, 0, none⟩) n n) n (madeCells (Value.int .i64 0).cells (n * 1)).toList) : VR w1 w.heap.size (List.replicate n 0) := by
  have hr := _root_.Go.Proofs.Ytfnjbbokbdddpaa.rowWhole ho
  rw [show (Value.int .i64 0).cells = #[Value.int .i64 0] from rfl, Nat.mul_one, toList_madeCells_one] at hr
  unfold VR
  rw [hr]
  simp

def LW (w : World) (gl g m : Nat) (os : List Nat) (zs : List Int) (W : World) : Prop := VR W gl zs ∧ Reads .i64 W (some ⟨g, 0, none⟩) m (ints os) ∧ Below w.heap.size w W
theorem LW.store {w W : World} {gl g m i : Nat} {os : List Nat} {zs : List Int} (h : LW w gl g m os zs W) (h1 : w.heap.size ≤ gl) (h2 : g ≠ gl) (x : Int) : LW w gl g m os (zs.set i x) (W.setCell ⟨gl, i, none⟩ (.int .i64 x)) := by
  refine ⟨h.1.set x, ?_, h.2.2.setCell h1 _⟩
  refine ⟨h.2.1.1, fun h0 => ?_⟩
  obtain ⟨b, o, e, hl, hc⟩ := h.2.1.2 h0
  simp only [Option.some.injEq, Addr.mk.injEq] at e
  obtain ⟨rfl, rfl, _⟩ := e
  exact ⟨_, _, rfl, by simpa [World.setCell] using hl, fun j hj => cellOther _ h2 (hc j hj)⟩
theorem LW.drewN {w W : World} {gl g m q : Nat} {os : List Nat} {zs : List Int} (h : LW w gl g m os zs W) : LW w gl g m os zs (W.drewN q) := ⟨h.1, h.2.1, below_drewN h.2.2 q⟩
theorem LW.cell {w W : World} {gl g m i : Nat} {os : List Nat} {zs : List Int} (h : LW w gl g m os zs W) (hm : os.length = m) (hi : i < m) : W.cell? ⟨g, i, none⟩ = some (.int .i64 ((os.getD i 0 : Nat) : Int)) := by
  obtain ⟨b, o, e, hl, hc⟩ := h.2.1.2 (by omega)
  simp only [Option.some.injEq, Addr.mk.injEq] at e
  obtain ⟨rfl, rfl, _⟩ := e
  have := hc i hi
  rw [Nat.zero_add] at this
  rw [this]
  have hi2 : i < os.length := by omega
  simp [ints, List.getD, hi2]

def ChnNew (w : World) (M : Nat) (e : Ending) (w' : World) : Prop :=
  ∃ (n : Nat) (os : List Nat) (zs : List Int) (gl g c : Nat), e = .returned (.tuple #[.slice (some ⟨gl, 0, none⟩) (3 + 5 * n) (3 + 5 * n), .slice (some ⟨g, 0, none⟩) os.length c]) ∧ (1 ≤ n ∧ n ≤ 9) ∧ os.length = min M n ∧ Os n os ∧ ChK n os os.length zs ∧ LW w gl g os.length os zs w' ∧ w.heap.size ≤ gl ∧ g ≠ gl ∧ os.length ≤ c
def ChRel (w : World) (n gl g m : Nat) (os : List Nat) (i : Value) (wr : World) : Prop :=
  ∃ (k : Nat) (zs : List Int), k ≤ m ∧ i = .int .i64 k ∧ ChK n os k zs ∧ LW w gl g m os zs wr

def OrdRel (w : World) (n : Nat) (v i : Value) (wr : World) : Prop :=
  ∃ (k : Nat) (od : List Nat), k ≤ n ∧ i = .int .i64 k ∧ wr.ownsRow w.heap.size 3 1 v od.length ((ints od).map (Value.int .i64)) ∧ od.Perm ((List.range k).map (fun j => 3 + 5 * j)) ∧ Below w.heap.size w wr

set_option maxRecDepth 100000 in
set_option maxHeartbeats 16000000 in
theorem chainAny (w : World) (ac : Option Addr) (nc cc : Nat) (xs : List Int) (hx : ArgBytes w ac nc cc xs) (hnc : nc ≤ 140737488351232) (many : Int) (m0 : 0 ≤ many) (m1 : many ≤ 100) :
    Calls Try.prog 14 #[.slice ac nc cc, .int .i64 many] w (ChnNew w many.toNat) := by
  obtain ⟨i0, hi, hz0, hz1, hz2⟩ := info_parts infoInt
  obtain ⟨j0, hj, hy0, hy1, hy2⟩ := info_parts infoInt64
  have HX := Lib.hid hx
  clear hx
  go_enter Try.func14, Try.ntmps14
  go_upto_if 16 with (fail)
  go_cut [6] from 17 to 22 (fun n wx => ∃ m : Nat, n = .int .i64 (m : Int) ∧ 1 ≤ m ∧ m ≤ 9 ∧ Hid (w = wx))
  case first =>
    by_cases h0 : 0 < nc
    · have hzl := HX.out.1.1
      obtain ⟨b, off, rfl, lb, hc⟩ := HX.out.1.2 (by omega)
      have c0 := hc 0 h0
      rw [Nat.add_zero] at c0
      have hq := HX.out.2.2.2 (xs.getD 0 0) (by simp [List.getD, hzl, h0])
      clear hc
      generalize xs.getD 0 0 = q at *
      obtain ⟨q0, q1⟩ := hq
      have d0 : (0 : Int) < nc := by omega
      go_wp2
      go_meet
      exact ⟨(1 + q % 9).toNat, by rw [Int.toNat_of_nonneg (by omega)], by omega, by omega, rfl⟩
    · obtain rfl : nc = 0 := by omega
      go_wp2
      go_meet
      exact ⟨1, rfl, by omega, by omega, rfl⟩
  case' rest => skip
  obtain ⟨n, rfl, hn1, hn9, hwc⟩ := hcut
  have hwc : w = wc := hwc
  subst hwc
  go_wp2
  go_loopw [7, 8] (fun v i wr => OrdRel w n v i wr) (fun _ i _ => n - (intOf i).toNat)
  case atStart => exact ⟨0, [], Nat.zero_le _, rfl, World.ownsRow_nil _ _ _ _, by simp, Below.refl _ _⟩
  case round =>
    obtain ⟨k, od, hk, rfl, hO, hP, hB⟩ := hrel
    have hlen := order_len hP
    have HO := Lib.hid hO
    have HP := Lib.hid hP
    have HB := Lib.hid hB
    rw [hlen] at hO
    clear hP hB
    by_cases hlt : k < n
    · have k0 : (k : Int) < n := by omega
      go_upto_if 31 with (fail)
      go_cut [9] from 32 to 39 (fun a wx => ∃ t : Nat, a = .int .i64 (t : Int) ∧ t ≤ k ∧ Hid (wr = wx))
      case first =>
        by_cases hc : k < nc
        · have hzl := HX.out.1.1
          obtain ⟨b, off, rfl, lb, hcc⟩ := HX.out.1.2 (by omega)
          have c0 := (HB.out.cell (p := ⟨b, off + k, none⟩) lb).trans (hcc k hc)
          have hq := HX.out.2.2.2 (xs.getD k 0) (by simp [List.getD, hzl, hc])
          clear hcc hO
          generalize xs.getD k 0 = q at *
          obtain ⟨q0, q1⟩ := hq
          have d0 : (k : Int) < nc := by omega
          go_wp2
          go_meet
          have e1 := Int.emod_nonneg q (show (k : Int) + 1 ≠ 0 by omega)
          have e2 := Int.emod_lt_of_pos q (show (0 : Int) < (k : Int) + 1 by omega)
          exact ⟨(q % ((k : Int) + 1)).toNat, by rw [Int.toNat_of_nonneg e1], by omega, rfl⟩
        · have d0 : (nc : Int) ≤ k := by omega
          clear hO
          go_wp2
          go_meet
          exact ⟨0, rfl, by omega, rfl⟩
      case' rest => skip
      obtain ⟨t, rfl, ht, hwr⟩ := hcut
      have hwr : wr = wc := hwr
      subst hwr
      rcases hO.2 with ⟨rfl, hnil⟩ | ⟨g, cap, cur, rfl, hbg, hg, h3⟩
      · have hk0 : k = 0 := hnil
        subst hk0
        obtain rfl : t = 0 := by omega
        have hod : od = [] := List.eq_nil_of_length_eq_zero hlen
        subst hod
        clear hO hlen
        have HK5 := Lib.hid (show (ints [3]).map (Value.int .i64) = [.int .i64 3] by simp [ints])
        go_wp2_with (first
          | (at_builtin; (refine wpList_append_later rfl (.tmp 45) (.tmp 49) 34 rfl wr.heap.size 3 i0 _ 1 8 Try.underlying34 hi hz0 hz1 hz2 rfl (by decide) (.slice none 0 0) 0 [] rfl (World.ownsRow_nil _ _ _ _) ⟨wr.heap.size, 0, none⟩ 1 1 [.int .i64 3] rfl rfl (by intro j u hu; cases j <;> simp at hu; subst hu; go_simp) (by intro u hu; simp at hu; subst hu; rfl) (by simp only [maxLen]; omega) (by omega) (by simp) ?_; intro v2 w2 q2 g2 _; have H2 := Lib.hid ((XR.nil wr).next (nw := [3]) ((Below.refl _ wr).alloc (Nat.le_refl _) _) (by rw [HK5.out]; exact q2) rfl g2); obtain ⟨a2, c2, rfl⟩ := _root_.Go.Proofs.Ytfnjbbokbdddpaa.ownShape q2; clear q2 g2))
          | (at_builtin; (refine wpList_append_src _ rfl (.tmp 51) (.tmp 54) 34 rfl wr.heap.size 3 i0 _ 1 8 Try.underlying34 hi hz0 hz1 hz2 rfl (by decide) _ _ _ rfl H2.out.1 _ _ _ [] rfl rfl (fun h => absurd h (by omega)) (by simp) (by simp only [maxLen, List.nil_append, List.length_cons, List.length_nil]; omega) (by simp only [List.nil_append, List.length_cons, List.length_nil]; omega) H2.out.2.size ?_; intro v3 w3 q3 g3; have H3 := Lib.hid (H2.out.next (nw := []) (Below.refl _ _) q3 rfl g3); obtain ⟨a3, c3, rfl⟩ := _root_.Go.Proofs.Ytfnjbbokbdddpaa.ownShape q3; clear q3 g3)))
        go_roundw
        case rel => exact ⟨1, [3], by omega, rfl, ownBase H3.out.1 HB.out.size, by simp [List.range_succ], HB.out.trans (H3.out.2.mono HB.out.size)⟩
        case measure => simp [intOf]; omega
      · have t0 : (t : Int) ≤ k := by omega
        have t1 : (k : Int) ≤ cap := by have := (rowCells hO hlen).2; omega
        have HTk := Lib.hid (show (od.take t).length = t by rw [List.length_take]; omega)
        have HDr := Lib.hid (show (od.drop t).length = k - t by rw [List.length_drop]; omega)
        have HL2 := Lib.hid (show ([] ++ od.take t ++ [3 + 5 * k]).length = t + 1 by simp; omega)
        have HK5 := Lib.hid (show (ints [3 + 5 * k]).map (Value.int .i64) = [.int .i64 (3 + 5 * (k : Int))] by simp [ints])
        have HI5 := Lib.hid (show (ints (od.take t ++ [3 + 5 * k])).map (Value.int .i64) = (ints (od.take t)).map (Value.int .i64) ++ [.int .i64 (3 + 5 * (k : Int))] by simp [ints])
        have HLen := Lib.hid hlen
        have HTL := Lib.hid ht
        have HKC := Lib.hid (show k ≤ cap by omega)
        have hcell : ∀ i, i < k → wr.cell? ⟨g, i, none⟩ = some (.int .i64 ((od.getD i 0 : Nat) : Int)) := by
          intro i hik
          exact (rowCells hO hlen).1 i hik
        have HC := Lib.hid (fun (W : World) (hb : Below wr.heap.size wr W) (i : Nat) (hik : i < k) => (hb.cell (p := ⟨g, i, none⟩) (lt_of_block hg)).trans (hcell i hik))
        clear hO hlen ht hcell hg h3
        go_wp2_with (first
          | (at_builtin; refine wpList_append_src _ rfl (.tmp 40) (.tmp 43) 34 rfl wr.heap.size 3 i0 _ 1 8 Try.underlying34 hi hz0 hz1 hz2 rfl (by decide) (.slice none 0 0) 0 [] rfl (World.ownsRow_nil _ _ _ _) _ _ _ ((ints (od.take t)).map (Value.int .i64)) rfl (by rw [List.length_map, ints_len, HTk.out, Nat.mul_one]) (src_take (HC.out _ (Below.refl _ _)) HLen.out HTL.out) (ints_oneCell _ _) (by simp only [maxLen]; omega) (by omega) (Nat.le_refl _) ?_; intro v1 w1 q1 g1; have H1 := Lib.hid ((XR.nil wr).next (Below.refl _ _) q1 HTk.out g1); have E1 := Lib.hid (show w1.ownsRow wr.heap.size 3 1 v1 t ((ints (od.take t)).map (Value.int .i64)) by simpa using q1); obtain ⟨a1, c1, rfl⟩ := _root_.Go.Proofs.Ytfnjbbokbdddpaa.ownShape E1.out; clear q1 g1)
          | (at_builtin; (refine wpList_append_later rfl (.tmp 45) (.tmp 49) 34 rfl wr.heap.size 3 i0 _ 1 8 Try.underlying34 hi hz0 hz1 hz2 rfl (by decide) _ _ _ rfl (E1.out.alloc _) ⟨w1.heap.size, 0, none⟩ 1 1 [.int .i64 (3 + 5 * (k : Int))] rfl rfl (by intro j u hu; cases j <;> simp at hu; subst hu; go_simp) (by intro u hu; simp at hu; subst hu; rfl) (by simp only [maxLen]; omega) (by omega) (by have := H1.out.2.size; simp; omega) ?_; intro v2 w2 q2 g2 _; have H2 := Lib.hid (H1.out.next (nw := [3 + 5 * k]) ((Below.refl _ w1).alloc H1.out.2.size _) (by rw [HK5.out, List.nil_append, HTk.out]; exact q2) rfl g2); have E2 := Lib.hid (show w2.ownsRow wr.heap.size 3 1 v2 (t + 1) ((ints (od.take t ++ [3 + 5 * k])).map (Value.int .i64)) by rw [HI5.out]; exact q2); obtain ⟨a2, c2, rfl⟩ := _root_.Go.Proofs.Ytfnjbbokbdddpaa.ownShape E2.out; clear q2 g2))
          | (at_builtin; (refine wpList_append_src _ rfl (.tmp 51) (.tmp 54) 34 rfl wr.heap.size 3 i0 _ 1 8 Try.underlying34 hi hz0 hz1 hz2 rfl (by decide) _ _ _ rfl E2.out _ _ _ ((ints (od.drop t)).map (Value.int .i64)) rfl (by rw [List.length_map, ints_len, HDr.out, Nat.mul_one]) (src_dropIf (HC.out _ H2.out.2) HLen.out HTL.out HKC.out) (ints_oneCell _ _) (by simp only [maxLen]; omega) (by omega) H2.out.2.size ?_; intro v3 w3 q3 g3; have H3 := Lib.hid (H2.out.next (Below.refl _ _) (by rw [HL2.out, List.nil_append]; exact q3) HDr.out g3); obtain ⟨a3, c3, rfl⟩ := _root_.Go.Proofs.Ytfnjbbokbdddpaa.ownShape q3; clear q3 g3)))
        go_roundw
        case rel => exact ⟨k + 1, od.take t ++ [3 + 5 * k] ++ od.drop t, by omega, by go_num, ownBase H3.out.1 HB.out.size, order_next HP.out, HB.out.trans (H3.out.2.mono HB.out.size)⟩
        case measure => simp [intOf]; omega
    · have hkn : n = k := by omega
      subst hkn
      clear hlt hk
      rcases hO.2 with ⟨_, hnil⟩ | ⟨g, cap, cur, rfl, hbg, hg, h3⟩
      · omega
      obtain ⟨M, rfl⟩ : ∃ M : Nat, many = (M : Int) := ⟨many.toNat, by omega⟩
      have hcap := (rowCells hO hlen).2
      have HCell := Lib.hid (rowCells hO hlen).1
      have HGW := Lib.hid (lt_of_block hg)
      have HLen := Lib.hid hlen
      have n0 : (n : Int) ≤ cap := by omega
      clear hO hlen hg h3 hcap
      go_upto_region 16 with (fail)
      go_cut [11] from 57 to 61 (fun o wx => ∃ (m c : Nat), m = min M n ∧ o = .slice (some ⟨g, 0, none⟩) m c ∧ m ≤ c ∧ Hid (wr = wx))
      case first =>
        by_cases hMn : M ≤ n
        · have a0 : (M : Int) ≤ n := by omega
          have a1 : (M : Int) ≤ cap := by omega
          go_wp2
          go_meet
          exact ⟨M, _, by omega, rfl, by omega, rfl⟩
        · have a0 : (n : Int) ≤ M := by omega
          have a1 : (n : Int) < M := by omega
          go_wp2
          go_meet
          exact ⟨n, _, by omega, rfl, by omega, rfl⟩
      case' rest => skip
      obtain ⟨m, c, hm, rfl, hmc, hwr⟩ := hcut
      have hwr : wr = wc := hwr
      subst hwr
      have hmn : m ≤ n := by omega
      obtain ⟨os, hos⟩ : ∃ os, od.take m = os := ⟨_, rfl⟩
      have hol : os.length = m := by rw [← hos, List.length_take, HLen.out]; omega
      have HOs := Lib.hid (show Os n os by rw [← hos]; exact (order_os HP.out).take m)
      have HOL := Lib.hid hol
      have hrd : Reads .i64 wr (some ⟨g, 0, none⟩) m (ints os) := by
        refine ⟨by rw [ints_len, hol], fun _ => ⟨g, 0, rfl, HGW.out, fun i hi => ?_⟩⟩
        rw [Nat.zero_add, HCell.out i (by omega), ← hos]
        have h1 : i < od.length := by rw [HLen.out]; omega
        have h2 : i < m := hi
        simp [ints, List.getD, h1, h2]
      have HRd := Lib.hid hrd
      have HM := Lib.hid (And.intro hm hmc)
      clear hrd hol hos HP HCell HO hm
      go_upto_region 18 with (at_make; refine wpList_make_full _ rfl _ _ 22 rfl wr.heap.size 2 j0 (.int .i64 0) 1 Try.underlying22 hj hy0 hy1 _ _ _ _ (3 + 5 * n) rfl rfl (by simp) (by simp) (by rw [hy2]; omega) (by unfold maxLen; omega) (Nat.le_refl _) ?_; intro w1 ho hgr; have HV := Lib.hid (VR.made ho); have HG := Lib.hid ((Below.refl wr.heap.size wr).grown hgr (Nat.le_refl _) (by simp)); clear ho hgr)
      have HW0 := Lib.hid (show LW w wr.heap.size g m os (List.replicate (3 + 5 * n) 0) w1 from ⟨HV.out, HRd.out.keep HG.out, HB.out.trans (HG.out.mono HB.out.size)⟩)
      have hGL : g ≠ wr.heap.size := Nat.ne_of_lt HGW.out
      have HBL := Lib.hid HB.out.size
      have v2 := HW0.out.1.f 2
      have vc := HW0.out.1.cell (i := 2) (by simp; omega)
      have vl := HW0.out.1.lt
      clear HV HG HRd HB
      generalize wr.heap.size = gl at *
      generalize (List.replicate (3 + 5 * n) (0 : Int)).getD 2 0 = z2 at *
      have HW1 := Lib.hid (HW0.out.store (i := 2) HBL.out hGL 50)
      have HGL := Lib.hid hGL
      clear hGL
      go_upto_region 19 with (fail)
      generalize w1.setCell ⟨gl, 2, none⟩ (.int .i64 50) = W1 at *
      have HST := Lib.hid (show ChRel w n gl g m os (.int .i64 0) W1 from ⟨0, _, Nat.zero_le _, rfl, ChK.start n os, HW1.out⟩)
      clear v2 vc vl HW0 HW1
      obtain ⟨L, hL⟩ : ∃ L, 3 + 5 * n = L := ⟨_, rfl⟩
      rw [hL]
      have HLL := Lib.hid hL
      clear hL
      go_wp2
      go_loopw [13] (fun i wr => ChRel w n gl g m os i wr) (fun i _ => m - (intOf i).toNat)
      case atStart => exact HST.out
      case round =>
        obtain ⟨k, zs, hk, rfl, hC, hW⟩ := hrel
        have HC := Lib.hid hC
        have HW := Lib.hid hW
        clear hC hW HST
        by_cases hlt : k < m
        · have k0 : (k : Int) < m := by omega
          obtain ⟨q, hq, eq⟩ := HOs.out.at (t := k) (by rw [HOL.out]; exact hlt)
          obtain ⟨a, ha⟩ : ∃ a, os.getD k 0 = a := ⟨_, rfl⟩
          have c1 := HW.out.cell HOL.out hlt
          rw [ha] at c1
          have a3 : 3 ≤ a := by omega
          have a4 : (a : Int) + 5 ≤ 3 + 5 * (n : Int) := by omega
          have HA := Lib.hid (And.intro ha (show a = 3 + 5 * q by omega))
          have HQ := Lib.hid hq
          have HLT := Lib.hid hlt
          clear eq ha hq
          go_upto_if 75 with (fail)
          go_cut [] from 74 to 92 (fun wx => Hid (LW w gl g m os (hang os k zs) wx))
          case first =>
            by_cases hk0 : k = 0
            · subst hk0
              have hdl : (1 : Int) < L := by have := HLL.out; omega
              have cz := HW.out.1.cell (i := 1) (by rw [HC.out.len]; omega)
              have cf := HW.out.1.f
              have HN := Lib.hid (HW.out.store (i := 1) HBL.out HGL.out (a : Int))
              have HH := Lib.hid (show hang os 0 zs = zs.set 1 (a : Int) by rw [← HA.out.1]; rfl)
              generalize zs.getD 1 0 = z at *
              go_wp2
              go_meet
              rw [HH.out]
              exact HN
            · obtain ⟨j, hjk⟩ : ∃ j, k = j + 1 := ⟨k - 1, by omega⟩
              obtain ⟨r, hr, er⟩ := HOs.out.at (t := j) (by rw [HOL.out]; omega)
              obtain ⟨b, hb⟩ : ∃ b, os.getD j 0 = b := ⟨_, rfl⟩
              have c2 := HW.out.cell HOL.out (show j < m by omega)
              rw [hb] at c2
              have b3 : 3 ≤ b := by omega
              have b4 : (b : Int) + 5 ≤ 3 + 5 * (n : Int) := by omega
              have cz := HW.out.1.cell (i := b + 3) (by rw [HC.out.len]; omega)
              have cf := HW.out.1.f
              have HN := Lib.hid ((HW.out.drewN (q := 1)).store (i := b + 3) HBL.out HGL.out (a : Int))
              have HH := Lib.hid (show hang os k zs = zs.set (b + 3) (a : Int) by unfold hang; rw [if_neg hk0, show k - 1 = j by omega, hb, HA.out.1])
              have hj0 : (j : Int) < m := by omega
              have hj1 : (j : Int) ≤ 100 := by omega
              have hw1 : IntKind.i64.wrap ((k : Int) - 1) = j := by rw [show (k : Int) - 1 = j by omega]; exact IntWalk.i64_in _ (by omega)
              have hk0 : ((k : Int) == 0) = false := by simp; omega
              obtain ⟨d, hd⟩ : ∃ d, b + 3 = d := ⟨_, rfl⟩
              rw [hd] at cz HN HH
              have hw2 : IntKind.i64.wrap ((b : Int) + 3) = (d : Int) := by rw [show (b : Int) + 3 = d by omega]; exact IntWalk.i64_in _ (by omega)
              have hdl : (d : Int) < L := by have := HLL.out; omega
              generalize zs.getD d 0 = z at *
              clear hb er hr hjk hd b3 b4
              go_wp2
              go_still_tail 12, (by kernel_rfl)
              go_wp2
              go_meet
              rw [HH.out]
              exact HN
          case' rest => skip
          have HW1 := Lib.hid hcut
          clear HW c1 hcut
          have HC1 := Lib.hid (HC.out.go (by omega) HOs.out (by rw [HOL.out]; exact HLT.out))
          have hlen1 : (hang os k zs).length = L := by rw [hang_len, HC.out.len]; exact HLL.out
          have c1 := HW1.out.cell HOL.out HLT.out
          rw [HA.out.1] at c1 HC1
          obtain ⟨d, hd⟩ : ∃ d, a + 1 = d := ⟨_, rfl⟩
          have hdl : (d : Int) < L := by have := HLL.out; omega
          have hw1 : IntKind.i64.wrap ((a : Int) + 1) = (d : Int) := by rw [show (a : Int) + 1 = d by omega]; exact IntWalk.i64_in _ (by omega)
          have hw1' : (a : Int) + 1 = (d : Int) := by omega
          rw [hd] at HC1
          have cz := HW1.out.1.cell (i := d) (by omega)
          have cf := HW1.out.1.f
          have HN := Lib.hid (HW1.out.store (i := d) HBL.out HGL.out 1)
          generalize (hang os k zs).getD d 0 = z at *
          generalize (hang os k zs).set d 1 = zs1 at *
          clear hd hlen1 HW1
          go_upto_if 103 with (fail)
          generalize wc.setCell ⟨gl, d, none⟩ (.int .i64 1) = W3 at *
          clear cz cf c1 hw1 hw1' hdl
          by_cases hc : k < nc
          · have hzl := HX.out.1.1
            obtain ⟨bb, off, rfl, lb, hcc⟩ := HX.out.1.2 (by omega)
            have cb := (HN.out.2.2.cell (p := ⟨bb, off + k, none⟩) lb).trans (hcc k hc)
            have hq2 := HX.out.2.2.2 (xs.getD k 0) (by simp [List.getD, hzl, hc])
            clear hcc
            generalize xs.getD k 0 = y at *
            obtain ⟨y0, y1⟩ := hq2
            have d0 : (k : Int) < nc := by omega
            have c1 := HN.out.cell HOL.out HLT.out
            rw [HA.out.1] at c1
            obtain ⟨d2, hd2⟩ : ∃ d, a + 2 = d := ⟨_, rfl⟩
            have hdl : (d2 : Int) < L := by have := HLL.out; omega
            have hw1 : IntKind.i64.wrap ((a : Int) + 2) = (d2 : Int) := by rw [show (a : Int) + 2 = d2 by omega]; exact IntWalk.i64_in _ (by omega)
            have cz := HN.out.1.cell (i := d2) (by have := HC1.out.len; have := HLL.out; omega)
            have cf := HN.out.1.f
            have HN2 := Lib.hid ((HN.out.drewN (q := 1)).store (i := d2) HBL.out HGL.out (y % 60))
            have HC2 := Lib.hid (HC1.out.age (g := y % 60) (by omega) HOs.out (by rw [HOL.out]; exact HLT.out) HQ.out (by omega) (by omega))
            rw [show 3 + 5 * q + 2 = d2 by have := HA.out.2; omega] at HC2
            generalize zs1.getD d2 0 = z3 at *
            have hy1 : IntKind.u8.wrap (y % 60) = y % 60 := IntWalk.u8_in _ (by omega)
            clear hd2 a4 lb
            go_wp2
            go_still_tail 13, (by kernel_rfl)
            go_wp2
            go_roundw
            case rel => exact ⟨k + 1, _, HLT.out, by go_num, HC2.out, HN2.out⟩
            case measure => have := HLT.out; simp [intOf]; omega
          · have d0 : (nc : Int) ≤ k := by omega
            go_wp2
            go_roundw
            case rel => exact ⟨k + 1, _, HLT.out, by go_num, HC1.out, HN.out⟩
            case measure => have := HLT.out; simp [intOf]; omega
        · have hkm : m = k := by omega
          subst hkm
          have HC3 := Lib.hid (show ChK n os os.length zs by rw [HOL.out]; exact HC.out)
          clear hlt hk HC
          go_wp2
          go_ret2
          exact ⟨n, os, zs, gl, g, c, by rw [HLL.out, HOL.out]; rfl, ⟨hn1, hn9⟩, by rw [HOL.out, Int.toNat_natCast]; exact HM.out.1, HOs.out, HC3.out, by rw [HOL.out]; exact HW.out, HBL.out, HGL.out, by rw [HOL.out]; exact HM.out.2⟩

end Go.Proofs.Ytfnjbbokbdddpaa.M2
namespace Go.Proofs.Ytfnjbbokbdddpaa.M2
open Go.RowKit

theorem mn_chn (n : Nat) : mn (3 + 5 * n) = n := by unfold mn; omega

section
variable {n k : Nat} {os : List Nat} {zs : List Int}

theorem ChK.at_ (h : ChK n os os.length zs) {t : Nat} (ht : t < os.length) : vAt zs os t = ((os.getD t 0 : Nat) : Int) := by
  unfold vAt
  by_cases h0 : t = 0
  · subst h0
    rw [if_pos rfl, h.z1, if_neg (by omega)]
  · rw [if_neg h0, h.nx (t - 1) (by omega), show t - 1 + 1 = t by omega]
theorem ChK.end_ (h : ChK n os os.length zs) (hos : Os n os) : vAt zs os os.length = 0 := by
  unfold vAt
  by_cases h0 : os.length = 0
  · rw [if_pos h0, h.z1, if_pos h0]
  · obtain ⟨j, hj, e⟩ := hos.at (t := os.length - 1) (by omega)
    rw [if_neg h0, e]
    exact h.nz j hj (by rw [← e]; exact hos.new (by omega))

theorem ChK.act (h : ChK n os os.length zs) (hos : Os n os) {t : Nat} (ht : t < os.length) : zs.getD (os.getD t 0 + 1) 0 = 1 := by
  obtain ⟨j, hj, e⟩ := hos.at ht
  rw [e, h.ac j hj, if_pos (by rw [List.take_length, ← e]; exact getD_mem ht)]
theorem ChK.req (h : ChK n os os.length zs) (hos : Os n os) {t : Nat} (ht : t < os.length) : zs.getD (os.getD t 0) 0 = 0 := by
  obtain ⟨j, hj, e⟩ := hos.at ht
  rw [e, h.rq j hj]
theorem ChK.off (h : ChK n os os.length zs) {j : Nat} (hj : j < n) (hm : 3 + 5 * j ∉ os) : zs.getD (3 + 5 * j + 1) 0 = 0 := by
  rw [h.ac j hj, if_neg (by rw [List.take_length]; exact hm)]

theorem idleK_no {zs : List Int} {os : List Nat} (h : ∀ t, t < os.length → zs.getD (os.getD t 0 + 1) 0 ≠ 0) : idleK zs os os.length = false := by
  unfold idleK
  rw [List.take_length, List.any_eq_false]
  intro a ha
  obtain ⟨t, ht, e⟩ := List.mem_iff_getElem.1 ha
  have := h t ht
  rw [show os.getD t 0 = a by rw [← e]; simp [List.getD, ht]] at this
  simpa using this
theorem goneK_no {zs : List Int} {ps : List Nat} {n : Nat} (h : ∀ j, j < n → goneB zs ps j = false) : goneK zs ps n = false := by
  unfold goneK
  rw [List.any_eq_false]
  intro j hj
  simp [h j (by simpa using hj)]

theorem vAt_set {zs : List Int} {ps : List Nat} {i t : Nat} {x : Int} (h1 : i ≠ 1 ∨ t ≠ 0) (h2 : t ≠ 0 → i ≠ ps.getD (t - 1) 0 + 3) : vAt (zs.set i x) ps t = vAt zs ps t := by
  unfold vAt
  by_cases h0 : t = 0
  · rw [if_pos h0, if_pos h0, getD_set, if_neg (by omega)]
  · have := h2 h0
    rw [if_neg h0, if_neg h0, getD_set, if_neg (by omega)]

end

end Go.Proofs.Ytfnjbbokbdddpaa.M2
namespace Go.Proofs.Ytfnjbbokbdddpaa.M2
open Go.RowKit Go.Shelf

attribute [local go_sem] Oper.semAt_some

section
variable {w : World} {B p : Nat} {size st : Int} {zs : List Int} {ps : List Nat} {lost : Bool}

def ReachNew (w : World) (ps : List Nat) (lost : Bool) (e : Ending) (w' : World) : Prop := ∃ v, e = .returned (.tuple #[v, .bool (!lost)]) ∧ IntsNew w (if lost then [] else ints ps) v w'

end

end Go.Proofs.Ytfnjbbokbdddpaa.M2
namespace Go.Proofs.Ytfnjbbokbdddpaa.M2
open Go.RowKit

set_option maxRecDepth 100000 in
theorem refBase (k : Int) (w : World) : Calls Try.prog 58 #[.int .i64 k] w fun e w' => e = .returned (.int .i64 (bs k)) ∧ w = w' := by
  rcases (show k < 0 ∨ 1000 < k ∨ (0 ≤ k ∧ k ≤ 1000) from by omega) with h | h | ⟨h, h'⟩
  · rw [bs_low h]
    go_enter Try.func58, Try.ntmps58
    go_wp2
    go_ret
    exact ⟨rfl, rfl⟩
  · rw [bs_high h]
    go_enter Try.func58, Try.ntmps58
    go_wp2
    go_ret
    exact ⟨rfl, rfl⟩
  · rw [bs_in h h']
    go_enter Try.func58, Try.ntmps58
    go_wp2
    go_ret
    exact ⟨rfl, rfl⟩

theorem refBaseIn {k : Int} (h0 : 0 ≤ k) (h1 : k ≤ 1000) (w : World) : Calls Try.prog 58 #[.int .i64 k] w fun e w' => e = .returned (.int .i64 (3 + 5 * k)) ∧ w = w' := by
  have C := refBase k w
  rw [bs_in h0 h1] at C
  exact C

section
variable {w : World} {B : Nat} {u : Value} {size : Int} {zs : List Int} {st : Int}

set_option maxRecDepth 100000 in
theorem refMany (h : w.ownsRow B 2 1 u zs.length (zs.map (Value.int .i64))) (hl : zs.length ≤ 1000) :
    Calls Try.prog 57 #[.agg #[.int .i64 size, u, .int .i64 st]] w fun e w' => e = .returned (.int .i64 (mn zs.length : Nat)) ∧ Below w.heap.size w w' := by
  obtain ⟨ao, cap, rfl⟩ := ownShape h
  clear h
  generalize zs.length = n at *
  by_cases hn : n < 3
  · have e0 : mn n = 0 := by unfold mn; omega
    rw [e0]
    clear e0
    go_enter Try.func57, Try.ntmps57
    go_wp2
    all_goals (go_ret; first | exact ⟨rfl, (Below.refl _ _).alloc (Nat.le_refl _) _⟩ | (exfalso; omega) | exact ⟨by simp <;> omega, (Below.refl _ _).alloc (Nat.le_refl _) _⟩)
  · have e0 : ((mn n : Nat) : Int) = ((n : Int) - 3) / 5 := by unfold mn; omega
    rw [e0]
    clear e0
    go_enter Try.func57, Try.ntmps57
    go_wp2
    all_goals (go_ret; first | exact ⟨rfl, (Below.refl _ _).alloc (Nat.le_refl _) _⟩ | (exfalso; omega) | exact ⟨by simp <;> omega, (Below.refl _ _).alloc (Nat.le_refl _) _⟩)

def RefNthRel (w : World) (B : Nat) (u : Value) (size : Int) (zs : List Int) (st : Int) (T : Nat) (i : Value) (wr : World) : Prop :=
  ∃ j : Nat, j ≤ T ∧ i = .int .i64 j ∧ wr.ownsRow B 2 1 u zs.length (zs.map (Value.int .i64)) ∧ Boxed wr w.heap.size (.int .i64 size) u (.int .i64 st) ∧ Below w.heap.size w wr

set_option maxRecDepth 100000 in
set_option maxHeartbeats 1600000 in
theorem refNthIn (h : w.ownsRow B 2 1 u zs.length (zs.map (Value.int .i64))) (hl : zs.length ≤ 1000) (k : Nat) (hk : k < mn zs.length) :
    Calls Try.prog 56 #[.agg #[.int .i64 size, u, .int .i64 st], .int .i64 (3 + 5 * (k : Int))] w fun e w' => e = .returned (.tuple #[.int .i64 (k : Int), .bool true]) ∧ Below w.heap.size w w' := by
  obtain ⟨ao, cap, rfl⟩ := ownShape h
  have hM : mn zs.length ≤ 200 := by unfold mn; omega
  obtain ⟨M, hMe⟩ : ∃ M, mn zs.length = M := ⟨_, rfl⟩
  have HQ := Lib.hid (fun (wr : World) (h : wr.ownsRow B 2 1 (.slice ao zs.length cap) zs.length (zs.map (Value.int .i64))) => refMany (size := size) (st := st) h hl)
  rw [hMe] at HQ hM hk
  obtain ⟨a, ha⟩ : ∃ a : Int, a = 3 + 5 * (k : Int) := ⟨_, rfl⟩
  rw [← ha]
  have HA := Lib.hid ha
  clear ha
  clear hMe hl
  go_enter Try.func56, Try.ntmps56
  go_upto_region 1 with (fail)
  generalize hW : w.alloc (.cells #[.int .i64 size, .slice ao zs.length cap, .int .i64 st] 39) = W
  have HX := Lib.hid (show Boxed W w.heap.size (.int .i64 size) (.slice ao zs.length cap) (.int .i64 st) by subst hW; exact Boxed.new _ _ _ _)
  have HB := Lib.hid (show Below w.heap.size w W by subst hW; exact (Below.refl _ _).alloc (Nat.le_refl _) _)
  have HO := Lib.hid (own_keep h HB.out)
  clear hW h
  go_wp2
  go_loopw [6] (fun i wr => RefNthRel w B (.slice ao zs.length cap) size zs st k i wr) (fun i _ => 300 - (intOf i).toNat)
  case atStart => exact ⟨0, by omega, rfl, HO.out, HX.out, HB.out⟩
  case round =>
    obtain ⟨j, hj, rfl, hO, hX, hB⟩ := hrel
    have HOr := Lib.hid hO
    have HXr := Lib.hid hX
    have HBr := Lib.hid hB
    have c0 := hX.c0
    have c1 := hX.c1
    have c2 := hX.c2
    have C := HQ.out wr hO
    clear hO hX hB HO HX HB
    go_wp2_with fail
    refine C.mono ?_
    clear C c0 c1 c2
    rintro e w3 ⟨rfl, b3⟩
    have HO3 := Lib.hid (own_keep HOr.out b3)
    have HX3 := Lib.hid (HXr.out.keep b3)
    have HB3 := Lib.hid (HBr.out.trans (b3.mono HBr.out.size))
    clear b3 HOr HXr HBr
    by_cases hjk : j = k
    · subst hjk
      have hm : (j : Int) < M := by omega
      go_wp2_with fail
      refine (refBaseIn (k := (j : Int)) (by omega) (by omega) w3).mono ?_
      rintro e w' ⟨rfl, rfl⟩
      rw [← HA.out]
      go_wp2
      go_ret2
      exact ⟨rfl, HB3.out⟩
    · have hm : (j : Int) < M := by omega
      have hne : ((3 + 5 * (j : Int)) == a) = false := by rw [HA.out]; simp; omega
      go_wp2_with fail
      refine (refBaseIn (k := (j : Int)) (by omega) (by omega) w3).mono ?_
      rintro e w' ⟨rfl, rfl⟩
      go_wp2
      go_roundw
      case rel => exact ⟨j + 1, by omega, by go_num, HO3.out, HX3.out, HB3.out⟩
      case measure => simp [intOf]; omega

set_option maxRecDepth 100000 in
set_option maxHeartbeats 1600000 in
theorem refNthOut (h : w.ownsRow B 2 1 u zs.length (zs.map (Value.int .i64))) (hl : zs.length ≤ 1000) (a : Int) (ha : ∀ k : Nat, k < mn zs.length → a ≠ 3 + 5 * (k : Int)) :
    Calls Try.prog 56 #[.agg #[.int .i64 size, u, .int .i64 st], .int .i64 a] w fun e w' => e = .returned (.tuple #[.int .i64 0, .bool false]) ∧ Below w.heap.size w w' := by
  obtain ⟨ao, cap, rfl⟩ := ownShape h
  have hM : mn zs.length ≤ 200 := by unfold mn; omega
  obtain ⟨M, hMe⟩ : ∃ M, mn zs.length = M := ⟨_, rfl⟩
  have HQ := Lib.hid (fun (wr : World) (h : wr.ownsRow B 2 1 (.slice ao zs.length cap) zs.length (zs.map (Value.int .i64))) => refMany (size := size) (st := st) h hl)
  rw [hMe] at HQ hM ha
  have HA := Lib.hid ha
  clear ha
  clear hMe hl
  go_enter Try.func56, Try.ntmps56
  go_upto_region 1 with (fail)
  generalize hW : w.alloc (.cells #[.int .i64 size, .slice ao zs.length cap, .int .i64 st] 39) = W
  have HX := Lib.hid (show Boxed W w.heap.size (.int .i64 size) (.slice ao zs.length cap) (.int .i64 st) by subst hW; exact Boxed.new _ _ _ _)
  have HB := Lib.hid (show Below w.heap.size w W by subst hW; exact (Below.refl _ _).alloc (Nat.le_refl _) _)
  have HO := Lib.hid (own_keep h HB.out)
  clear hW h
  go_wp2
  go_loopw [6] (fun i wr => RefNthRel w B (.slice ao zs.length cap) size zs st M i wr) (fun i _ => 300 - (intOf i).toNat)
  case atStart => exact ⟨0, by omega, rfl, HO.out, HX.out, HB.out⟩
  case round =>
    obtain ⟨j, hj, rfl, hO, hX, hB⟩ := hrel
    have HOr := Lib.hid hO
    have HXr := Lib.hid hX
    have HBr := Lib.hid hB
    have c0 := hX.c0
    have c1 := hX.c1
    have c2 := hX.c2
    have C := HQ.out wr hO
    clear hO hX hB HO HX HB
    go_wp2_with fail
    refine C.mono ?_
    clear C c0 c1 c2
    rintro e w3 ⟨rfl, b3⟩
    have HO3 := Lib.hid (own_keep HOr.out b3)
    have HX3 := Lib.hid (HXr.out.keep b3)
    have HB3 := Lib.hid (HBr.out.trans (b3.mono HBr.out.size))
    clear b3 HOr HXr HBr
    by_cases hjk : j < M
    · have hm : (j : Int) < M := by omega
      have hne : ((3 + 5 * (j : Int)) == a) = false := by have := HA.out j hjk; simp; omega
      go_wp2_with fail
      refine (refBaseIn (k := (j : Int)) (by omega) (by omega) w3).mono ?_
      rintro e w' ⟨rfl, rfl⟩
      go_wp2
      go_roundw
      case rel => exact ⟨j + 1, by omega, by go_num, HO3.out, HX3.out, HB3.out⟩
      case measure => simp [intOf]; omega
    · have hm : ¬ (j : Int) < M := by omega
      go_wp2
      go_ret2
      exact ⟨rfl, HB3.out⟩

end

end Go.Proofs.Ytfnjbbokbdddpaa.M2
namespace Go.Proofs.Ytfnjbbokbdddpaa.M2
open Go.RowKit

def RS (w : World) (B : Nat) (u : Value) (size : Int) (zs : List Int) (st : Int) (wr : World) : Prop :=
  wr.ownsRow B 2 1 u zs.length (zs.map (Value.int .i64)) ∧ Boxed wr w.heap.size (.int .i64 size) u (.int .i64 st) ∧ B5 wr (w.heap.size + 1) 79 0 0 0 0 0 ∧ Below w.heap.size w wr

section
variable {w : World} {B : Nat} {u : Value} {size : Int} {zs : List Int} {st : Int}

theorem RS.fresh {a b : World} (h : RS w B u size zs st a) (hb : Below a.heap.size a b) : RS w B u size zs st b :=
  ⟨own_keep h.1 hb, h.2.1.keep hb, h.2.2.1.keep hb, h.2.2.2.trans (hb.mono h.2.2.2.size)⟩

theorem RS.at {W : World} (h : RS w B u size zs st W) (a : Int) (i : Nat) (ha : a = (i : Int)) (hi : i < zs.length) :
    Calls Try.prog 39 #[.agg #[.int .i64 size, u, .int .i64 st], .int .i64 a] W fun e w' => e = .returned (.int .i64 (zs.getD i 0)) ∧ Below W.heap.size W w' := by
  have C := refAtIn (size := size) (st := st) h.1 a (by omega) (by omega)
  rw [show a.toNat = i by omega] at C
  exact C

theorem RS.new (h : w.ownsRow B 2 1 u zs.length (zs.map (Value.int .i64))) : ∀ W, (w.alloc (.cells #[.int .i64 size, u, .int .i64 st] 39)).alloc (.cells #[.int .i64 0, .int .i64 0, .int .i64 0, .int .i64 0, .int .i64 0] 79) = W → RS w B u size zs st W := by
  rintro W rfl
  have hb : Below w.heap.size w ((w.alloc (.cells #[.int .i64 size, u, .int .i64 st] 39)).alloc (.cells #[.int .i64 0, .int .i64 0, .int .i64 0, .int .i64 0, .int .i64 0] 79)) := ((Below.refl _ _).alloc (Nat.le_refl _) _).alloc (by simp) _
  refine ⟨own_keep h hb, (Boxed.new _ _ _ _).alloc _, ?_, hb⟩
  have := B5.new (w.alloc (.cells #[.int .i64 size, u, .int .i64 st] 39)) 79 0 0 0 0 0
  simpa using this

set_option maxRecDepth 100000 in
set_option maxHeartbeats 1600000 in
theorem refSeeOut (h : w.ownsRow B 2 1 u zs.length (zs.map (Value.int .i64))) (hl : zs.length ≤ 1000) (a : Int) (ha : ∀ k : Nat, k < mn zs.length → a ≠ 3 + 5 * (k : Int)) :
    Calls Try.prog 38 #[.agg #[.int .i64 size, u, .int .i64 st], .int .i64 a] w fun e w' => e = .returned (.tuple #[.agg #[.int .i64 0, .int .i64 0, .int .i64 0, .int .i64 0, .int .i64 0], .bool false]) ∧ Below w.heap.size w w' := by
  obtain ⟨ao, cap, rfl⟩ := ownShape h
  obtain ⟨W, hW⟩ : ∃ W, (w.alloc (.cells #[.int .i64 size, .slice ao zs.length cap, .int .i64 st] 39)).alloc (.cells #[.int .i64 0, .int .i64 0, .int .i64 0, .int .i64 0, .int .i64 0] 79) = W := ⟨_, rfl⟩
  have HR := Lib.hid (RS.new h W hW)
  have C := refNthOut (size := size) (st := st) HR.out.1 hl a ha
  have HW := Lib.hid hW
  clear hW h hl ha
  go_enter Try.func38, Try.ntmps38
  go_upto_region 1 with (fail)
  rw [HW.out]
  have c0 := HR.out.2.1.c0
  have c1 := HR.out.2.1.c1
  have c2 := HR.out.2.1.c2
  go_wp2_with fail
  refine C.mono ?_
  clear C c0 c1 c2 HW
  rintro e w3 ⟨rfl, b3⟩
  have HR3 := Lib.hid (HR.out.fresh b3)
  clear b3 HR
  have e0 := HR3.out.2.2.1.c0
  have e1 := HR3.out.2.2.1.c1
  have e2 := HR3.out.2.2.1.c2
  have e3 := HR3.out.2.2.1.c3
  have e4 := HR3.out.2.2.1.c4
  have ef := HR3.out.2.2.1.f
  have hN := HR3.out.2.2.1.lt
  go_wp2
  have Z := HR3.out.2.2.1.set5 0 0 0 0 0
  refine bodyPost_ret (v := .tuple #[.agg #[.int .i64 0, .int .i64 0, .int .i64 0, .int .i64 0, .int .i64 0], .bool false]) (by simp [results, Try.results38, go_sem, Z.c0, Z.c1, Z.c2, Z.c3, Z.c4]) rfl ⟨rfl, ?_⟩
  exact ((((HR3.out.2.2.2.setCell (by simp) _).setCell (by simp) _).setCell (by simp) _).setCell (by simp) _).setCell (by simp) _

set_option maxRecDepth 100000 in
set_option maxHeartbeats 1600000 in
theorem refSeeIn (h : w.ownsRow B 2 1 u zs.length (zs.map (Value.int .i64))) (hl : zs.length ≤ 1000) (k : Nat) (hk : k < mn zs.length) :
    Calls Try.prog 38 #[.agg #[.int .i64 size, u, .int .i64 st], .int .i64 (3 + 5 * (k : Int))] w fun e w' =>
      e = .returned (.tuple #[.agg #[.int .i64 (zs.getD (3 + 5 * k) 0), .int .i64 (zs.getD (3 + 5 * k + 1) 0), .int .i64 (zs.getD (3 + 5 * k + 2) 0), .int .i64 (zs.getD (3 + 5 * k + 3) 0), .int .i64 (zs.getD (3 + 5 * k + 4) 0)], .bool true]) ∧ Below w.heap.size w w' := by
  obtain ⟨ao, cap, rfl⟩ := ownShape h
  obtain ⟨W, hW⟩ : ∃ W, (w.alloc (.cells #[.int .i64 size, .slice ao zs.length cap, .int .i64 st] 39)).alloc (.cells #[.int .i64 0, .int .i64 0, .int .i64 0, .int .i64 0, .int .i64 0] 79) = W := ⟨_, rfl⟩
  have HR := Lib.hid (RS.new h W hW)
  have C := refNthIn (size := size) (st := st) HR.out.1 hl k hk
  have HW := Lib.hid hW
  have hK : 3 + 5 * k + 5 ≤ zs.length := by unfold mn at hk; omega
  have HQ := Lib.hid (fun (wx : World) (h : RS w B (.slice ao zs.length cap) size zs st wx) (a : Int) (i : Nat) (ha : a = (i : Int)) (hi : i < 3 + 5 * k + 5) => h.at a i ha (by omega))
  clear hW h
  obtain ⟨a, ha⟩ : ∃ a : Int, a = 3 + 5 * (k : Int) := ⟨_, rfl⟩
  rw [← ha] at C ⊢
  have HA := Lib.hid ha
  have w1 : IntKind.i64.wrap (a + 1) = a + 1 := IntWalk.i64_in _ (by omega)
  have w2 : IntKind.i64.wrap (a + 2) = a + 2 := IntWalk.i64_in _ (by omega)
  have w3 : IntKind.i64.wrap (a + 3) = a + 3 := IntWalk.i64_in _ (by omega)
  have w4 : IntKind.i64.wrap (a + 4) = a + 4 := IntWalk.i64_in _ (by omega)
  obtain ⟨z0, h0⟩ : ∃ z, zs.getD (3 + 5 * k) 0 = z := ⟨_, rfl⟩
  obtain ⟨z1, h1⟩ : ∃ z, zs.getD (3 + 5 * k + 1) 0 = z := ⟨_, rfl⟩
  obtain ⟨z2, h2⟩ : ∃ z, zs.getD (3 + 5 * k + 2) 0 = z := ⟨_, rfl⟩
  obtain ⟨z3, h3⟩ : ∃ z, zs.getD (3 + 5 * k + 3) 0 = z := ⟨_, rfl⟩
  obtain ⟨z4, h4⟩ : ∃ z, zs.getD (3 + 5 * k + 4) 0 = z := ⟨_, rfl⟩
  rw [h0, h1, h2, h3, h4]
  have Q0 := Lib.hid (fun wx h => HQ.out wx h a (3 + 5 * k) (by have := HA.out; omega) (by omega))
  have Q1 := Lib.hid (fun wx h => HQ.out wx h (a + 1) (3 + 5 * k + 1) (by have := HA.out; omega) (by omega))
  have Q2 := Lib.hid (fun wx h => HQ.out wx h (a + 2) (3 + 5 * k + 2) (by have := HA.out; omega) (by omega))
  have Q3 := Lib.hid (fun wx h => HQ.out wx h (a + 3) (3 + 5 * k + 3) (by have := HA.out; omega) (by omega))
  have Q4 := Lib.hid (fun wx h => HQ.out wx h (a + 4) (3 + 5 * k + 4) (by have := HA.out; omega) (by omega))
  rw [h0] at Q0
  rw [h1] at Q1
  rw [h2] at Q2
  rw [h3] at Q3
  rw [h4] at Q4
  clear ha h0 h1 h2 h3 h4 HQ HA hl hk hK
  go_enter Try.func38, Try.ntmps38
  go_upto_region 1 with (fail)
  rw [HW.out]
  have c0 := HR.out.2.1.c0
  have c1 := HR.out.2.1.c1
  have c2 := HR.out.2.1.c2
  go_wp2_with fail
  refine C.mono ?_
  clear C c0 c1 c2 HW
  rintro e W3 ⟨rfl, b3⟩
  have HR3 := Lib.hid (HR.out.fresh b3)
  have T0 := Lib.hid (HR3.out.fresh (Below.refl _ _).drew)
  clear b3 HR
  have a0 := HR3.out.2.1.c0
  have a1 := HR3.out.2.1.c1
  have a2 := HR3.out.2.1.c2
  have b0 := T0.out.2.1.c0
  have b1 := T0.out.2.1.c1
  have b2 := T0.out.2.1.c2
  have C0 := Lib.hid (Q0.out _ T0.out)
  clear HR3
  go_wp2
  go_region_held3 (fun w' => w'.cell? ⟨w.heap.size, 0, none⟩ = some (.int .i64 size) ∧ w'.cell? ⟨w.heap.size, 1, none⟩ = some (.slice ao zs.length cap) ∧ w'.cell? ⟨w.heap.size, 2, none⟩ = some (.int .i64 st)) (with_reducible first | exact ⟨a0, a1, a2⟩ | exact ⟨b0, b1, b2⟩ | exact ⟨c0, c1, c2⟩ | exact ⟨d0, d1, d2⟩ | exact ⟨e0, e1, e2⟩ | exact ⟨f0, f1, f2⟩ | exact ⟨g0, g1, g2⟩ | (refine ⟨?_, ?_, ?_⟩ <;> (repeat (refine cellOther _ (by simp) ?_)) <;> assumption)) (first
    | ((with_reducible refine C4.out.mono ?_); rintro e W8 ⟨rfl, b8⟩; have T5 := Lib.hid (T4.out.fresh b8); have g0 := T5.out.2.1.c0; have g1 := T5.out.2.1.c1; have g2 := T5.out.2.1.c2; have k0 := T5.out.2.2.1.c0; have k1 := T5.out.2.2.1.c1; have k2 := T5.out.2.2.1.c2; have k3 := T5.out.2.2.1.c3; have k4 := T5.out.2.2.1.c4; have kf := T5.out.2.2.1.f; clear b8)
    | ((with_reducible refine C3.out.mono ?_); rintro e W7 ⟨rfl, b7⟩; have T4 := Lib.hid (T3.out.fresh b7); have f0 := T4.out.2.1.c0; have f1 := T4.out.2.1.c1; have f2 := T4.out.2.1.c2; have C4 := Lib.hid (Q4.out _ T4.out); clear b7)
    | ((with_reducible refine C2.out.mono ?_); rintro e W6 ⟨rfl, b6⟩; have T3 := Lib.hid (T2.out.fresh b6); have e0 := T3.out.2.1.c0; have e1 := T3.out.2.1.c1; have e2 := T3.out.2.1.c2; have C3 := Lib.hid (Q3.out _ T3.out); clear b6)
    | ((with_reducible refine C1.out.mono ?_); rintro e W5 ⟨rfl, b5⟩; have T2 := Lib.hid (T1.out.fresh b5); have d0 := T2.out.2.1.c0; have d1 := T2.out.2.1.c1; have d2 := T2.out.2.1.c2; have C2 := Lib.hid (Q2.out _ T2.out); clear b5)
    | ((with_reducible refine C0.out.mono ?_); rintro e W4 ⟨rfl, b4⟩; have T1 := Lib.hid (T0.out.fresh b4); have c0 := T1.out.2.1.c0; have c1 := T1.out.2.1.c1; have c2 := T1.out.2.1.c2; have C1 := Lib.hid (Q1.out _ T1.out); clear b4))
  all_goals
    go_wp2
    have Z := T5.out.2.2.1.set5 z0 z1 z2 z3 z4
    refine bodyPost_ret (v := .tuple #[.agg #[.int .i64 z0, .int .i64 z1, .int .i64 z2, .int .i64 z3, .int .i64 z4], .bool true]) (by simp [results, Try.results38, go_sem, Z.c0, Z.c1, Z.c2, Z.c3, Z.c4]) rfl ⟨rfl, ?_⟩
    exact ((((T5.out.2.2.2.setCell (by simp) _).setCell (by simp) _).setCell (by simp) _).setCell (by simp) _).setCell (by simp) _
end

end Go.Proofs.Ytfnjbbokbdddpaa.M2
namespace Go.Proofs.Ytfnjbbokbdddpaa.M2
open Go.RowKit

def PlaceNew (w : World) (xs : List Int) (v : Int) (e : Ending) (w' : World) : Prop := ∃ i : Int, e = .returned (.int .i64 i) ∧ (-1 ≤ i ∧ i ≤ 1000) ∧ (v ∈ xs → 0 ≤ i) ∧ (v ∉ xs → i = -1) ∧ Below w.heap.size w w'

set_option maxRecDepth 100000 in
set_option maxHeartbeats 1600000 in
theorem refPlace (w : World) (ao : Option Addr) (n cap : Nat) (xs : List Int) (h : Reads .i64 w ao n xs) (hl : n ≤ 1000) (v : Int) :
    Calls Try.prog 19 #[.slice ao n cap, .int .i64 v] w (PlaceNew w xs v) := by
  obtain rfl : xs.length = n := h.1
  have H := Lib.hid h
  clear h
  generalize hn : xs.length = n at *
  have HN := Lib.hid hn
  clear hn
  go_enter Try.func19, Try.ntmps19
  go_wp2
  go_loopw [5] (fun i wr => ∃ k : Nat, k ≤ n ∧ i = .int .i64 k ∧ v ∉ xs.take k ∧ Hid (w = wr)) (fun i _ => n - (intOf i).toNat)
  case atStart => exact ⟨0, Nat.zero_le _, rfl, by simp, rfl⟩
  case round =>
    obtain ⟨k, hk, rfl, hno, hw⟩ := hrel
    have hw : w = wr := hw
    subst hw
    have HNo := Lib.hid hno
    clear hno
    by_cases hlt : k < n
    · obtain ⟨b, o, rfl, l1, hc⟩ := H.out.2 (by omega)
      have c0 := hc k hlt
      have hx : xs.getD k 0 ∈ xs := by rw [List.getD_eq_getElem?_getD]; have : k < xs.length := by rw [HN.out]; exact hlt
                                       simp [this]
      have ht : xs.take (k + 1) = xs.take k ++ [xs.getD k 0] := by
        have : k < xs.length := by rw [HN.out]; exact hlt
        rw [List.take_succ_eq_append_getElem this]; simp [List.getD, this]
      have HX := Lib.hid hx
      have HT := Lib.hid ht
      have i0 : (k : Int) < n := by omega
      have HLT := Lib.hid hlt
      clear hc hx ht hlt hk
      generalize xs.getD k 0 = x at *
      by_cases he : x = v
      · subst he
        go_wp2
        go_ret
        exact ⟨k, rfl, by omega, fun _ => by omega, fun h => absurd HX.out h, Below.refl _ _⟩
      · have he2 : (x == v) = false := by simpa using he
        have HE := Lib.hid he
        clear he
        go_wp2
        go_roundw
        case rel => exact ⟨k + 1, HLT.out, by go_num, by rw [HT.out]; simp only [List.mem_append, List.mem_singleton, not_or]; exact ⟨HNo.out, fun e => HE.out e.symm⟩, Lib.hid trivial⟩
        case measure => have := HLT.out; simp [intOf]; omega
    · obtain rfl : k = n := by omega
      clear hlt hk
      go_wp2
      go_ret
      have hno : v ∉ xs := by have := HNo.out; rwa [List.take_of_length_le (by have := HN.out; omega)] at this
      exact ⟨-1, rfl, by omega, fun h => absurd h hno, fun _ => rfl, Below.refl _ _⟩

def RO (w : World) (n : Nat) (size : Int) (u : Value) (st : Int) (v : Value) (xs : List Int) (W : World) : Prop :=
  Boxed W w.heap.size (.int .i64 size) u (.int .i64 st) ∧ W.ownsRow n 3 1 v xs.length (xs.map (Value.int .i64)) ∧ Below w.heap.size w W

theorem keepI {w w' : World} {n : Nat} {v : Value} {xs : List Int} (h : w.ownsRow n 3 1 v xs.length (xs.map (Value.int .i64))) (hb : Below w.heap.size w w') : w'.ownsRow n 3 1 v xs.length (xs.map (Value.int .i64)) :=
  _root_.Go.Proofs.Ytfnjbbokbdddpaa.own_keep h fun g hg => by
    obtain ⟨cs, e, _⟩ := LB.row h g hg
    exact hb.block g (lt_of_block e)
theorem rowBelow {n : Nat} {W w4 : World} {v : Value} {xs : List Int} {tmp : Obj} (h : W.ownsRow n 3 1 v xs.length (xs.map (Value.int .i64))) (hn : n ≤ W.heap.size) (hg : (W.alloc tmp).grownBy w4 v.ownBlock) : Below n W w4 :=
  ((Below.refl n W).alloc hn tmp).grown hg (by simp; omega) (fun k e => by
    obtain ⟨_, _, h3⟩ := LB.row h k e
    exact h3)

section
variable {w W W' w4 : World} {n : Nat} {size st : Int} {u v v' : Value} {xs : List Int} {x : Int}
theorem RO.fresh (h : RO w n size u st v xs W) (hb : Below W.heap.size W W') : RO w n size u st v xs W' := ⟨h.1.keep hb, keepI h.2.1 hb, h.2.2.trans (hb.mono h.2.2.size)⟩
theorem RO.put {tmp : Obj} (h : RO w n size u st v xs W) (hn : w.heap.size < n) (hown : w4.ownsRow n 3 1 v' (xs.length + 1) (xs.map (Value.int .i64) ++ [.int .i64 x])) (hg : (W.alloc tmp).grownBy w4 v.ownBlock) : RO w n size u st v' (xs ++ [x]) w4 := by
  have hrow : ∀ g, v.ownBlock = some g → n ≤ g := fun g e => by
    obtain ⟨_, _, h3⟩ := LB.row h.2.1 g e
    exact h3
  have hlt : w.heap.size < W.heap.size := lt_of_block h.1
  refine ⟨?_, by rw [List.length_append, List.map_append]; exact hown, ?_⟩
  · exact ((hg.block w.heap.size (by simp; omega) (fun e => by have := hrow _ e.symm; omega)).trans (Below.heap_alloc _ _ _ hlt)).trans h.1
  · exact (h.2.2.alloc h.2.2.size tmp).grown hg (by simp; omega) (fun k e => by have := hrow k e; omega)
theorem RO.new (n : Nat) (u : Value) (size st : Int) (w : World) : RO w n size u st (.slice none 0 0) [] (w.alloc (.cells #[.int .i64 size, u, .int .i64 st] 39)) :=
  ⟨Boxed.new _ _ _ _, World.ownsRow_nil _ _ _ _, (Below.refl _ _).alloc (Nat.le_refl _) _⟩
theorem RO.turn {m : Nat} (h : RO w n size u st (.slice none 0 0) [] W) : RO w m size u st (.slice none 0 0) [] W := ⟨h.1, World.ownsRow_nil _ _ _ _, h.2.2⟩
theorem RO.reads (h : RO w n size u st v xs W) : ∃ ao cap, v = .slice ao xs.length cap ∧ Reads .i64 W ao xs.length xs := by
  obtain ⟨ao, cap, e, hr, _, _⟩ := _root_.Go.Proofs.Ytfnjbbokbdddpaa.reads_own h.2.1
  exact ⟨ao, cap, e, hr⟩
theorem RO.told (h : RO w n size u st v xs W) : IntsNew w xs v W := IntsNew.of h.2.1 h.2.2
end

section
variable {w : World} {B : Nat} {u : Value} {size : Int} {zs : List Int} {st : Int} {ps : List Nat} {lost : Bool}

theorem refAtAny (h : w.ownsRow B 2 1 u zs.length (zs.map (Value.int .i64))) (a : Nat) :
    Calls Try.prog 39 #[.agg #[.int .i64 size, u, .int .i64 st], .int .i64 (a : Int)] w fun e w' => e = .returned (.int .i64 (zs.getD a 0)) ∧ Below w.heap.size w w' := by
  by_cases ha : a < zs.length
  · have C := refAtIn (size := size) (st := st) h (a : Int) (by omega) (by omega)
    rwa [Int.toNat_natCast] at C
  · have C := refAtOut (size := size) (st := st) h (a : Int) (.inr (by omega))
    rwa [show (0 : Int) = zs.getD a 0 by simp [List.getD, Nat.le_of_not_lt ha]] at C

set_option maxRecDepth 100000 in
set_option maxHeartbeats 4000000 in
theorem refRecords (h : w.ownsRow B 2 1 u zs.length (zs.map (Value.int .i64))) (hl : zs.length ≤ 1000) :
    Calls Try.prog 40 #[.agg #[.int .i64 size, u, .int .i64 st]] w fun e w' => ∃ v, e = .returned v ∧ IntsNew w (recK (mn zs.length)) v w' := by
  obtain ⟨i0, hi, hz0, hz1, hz2⟩ := info_parts infoInt
  obtain ⟨ao, cap, rfl⟩ := ownShape h
  have HM := Lib.hid (fun (W : World) (hb : Below w.heap.size w W) => refMany (size := size) (st := st) (own_keep h hb) hl)
  have hmx : mn zs.length ≤ 200 := by unfold mn; omega
  have HR0 := Lib.hid (RO.new (w.heap.size + 1) (.slice ao zs.length cap) size st w)
  clear h hl
  generalize zs.length = n at *
  generalize mn n = N at *
  go_enter Try.func40, Try.ntmps40
  go_wp2
  go_loopw [3, 4] (fun v i wr => ∃ k : Nat, k ≤ N ∧ i = .int .i64 k ∧ RO w (w.heap.size + 1) size (.slice ao n cap) st v (recK k) wr) (fun _ i _ => N - (intOf i).toNat)
  case atStart => exact ⟨0, Nat.zero_le _, rfl, HR0.out⟩
  case round =>
    obtain ⟨k, hk, rfl, hR⟩ := hrel
    obtain ⟨a2, c2, e2, hr2⟩ := hR.reads
    rw [recK_len] at e2
    subst e2
    have C := HM.out wr hR.2.2
    have c0 := hR.1.c0
    have c1 := hR.1.c1
    have c3 := hR.1.c2
    have HR := Lib.hid hR
    clear hR hr2 HR0
    go_wp2_with fail
    refine C.mono ?_
    clear C c0 c1 c3
    rintro e w1 ⟨rfl, b1⟩
    have HR1 := Lib.hid (HR.out.fresh b1)
    clear b1 HR
    by_cases hlt : k < N
    · have C2 := refBaseIn (k := (k : Int)) (by omega) (by omega) w1
      have HX := Lib.hid (recK_next k)
      have HSZ := Lib.hid (lt_of_block HR1.out.1)
      have HRL := Lib.hid (show w1.ownsRow (w.heap.size + 1) 3 1 (.slice a2 k c2) k ((recK k).map (Value.int .i64)) by have := HR1.out.2.1; rwa [recK_len] at this)
      go_wp2_with fail
      refine C2.mono ?_
      clear C2
      rintro e w' ⟨rfl, rfl⟩
      generalize 3 + 5 * (k : Int) = x at *
      go_wp2_with (at_builtin; refine wpList_append_later rfl (.tmp 11) (.tmp 14) 34 rfl (w.heap.size + 1) 3 i0 _ 1 8 Try.underlying34 hi hz0 hz1 hz2 rfl (by decide) _ _ _ rfl (HRL.out.alloc _) ⟨_, 0, none⟩ 1 1 [.int .i64 x] rfl rfl (by intro j u hu; cases j <;> simp at hu; subst hu; go_simp) (by intro u hu; simp at hu; subst hu; rfl) (by simp only [maxLen]; omega) (by omega) (by have := HSZ.out; simp; omega) ?_; intro v2 w2 q2 g2 _; have HN := Lib.hid (HR1.out.put (by omega) (by rw [recK_len]; exact q2) g2); clear q2 g2)
      rw [HX.out] at HN
      go_roundw
      case rel => exact ⟨k + 1, by omega, by go_num, HN.out⟩
      case measure => simp [intOf]; omega
    · obtain rfl : k = N := by omega
      go_wp2
      go_ret
      exact ⟨_, rfl, by have := HR1.out.told; simpa using this⟩
end

end Go.Proofs.Ytfnjbbokbdddpaa.M2
