/-
  What along of package list goes through, as a range's function. Conditions: a memory as Mem1 says. What all of package list goes through, as a range's function. Conditions: a memory as Mem1 says. A list of numbers in a variable that a range's round appends to. Conditions: at most a thousand numbers. What Stale of package list tells. Conditions: a memory as Mem1 says. What Sound of package list tells. Conditions: a memory as Mem1 says. What Records and Waiting of package list tell. Conditions: a memory as Mem1 says. Records that hang together (reaperlaw14.Chain), in plain lists. Conditions: none. What records that hang together come to, and what they come to where one cell is another, in plain lists. Conditions: none. Runs of who serves, in plain numbers: one behind the other; with nobody who waits nothing is done (CombPasses). Conditions: at most a hundred records. Cells of choices (reaperlaw13.Cells): a list of int64 of one's own, of at most forty numbers. Conditions: bytes, at most 200 of them.
-/
import Derived.Test.YtikaoikladbdpaaGreatG2616
import Derived.Test.YtikaoikladbdpaaGreatG2316
import Derived.Deep.CutRange
namespace Go.Proofs.YtikaoikladbdpaaGreat.M2
open Go.RowKit Go.Shelf

attribute [local go_sem] Oper.semAt_some

theorem take_next {ps : List Nat} {k : Nat} (h : k < ps.length) : ps.take (k + 1) = ps.take k ++ [ps.getD k 0] := by
  rw [List.take_succ_eq_append_getElem h]; simp [List.getD, h]

section
variable {w : World} {B p wb mb : Nat} {size st : Int} {zs : List Int} {ps : List Nat} {lost : Bool}

end

end Go.Proofs.YtikaoikladbdpaaGreat.M2
namespace Go.Proofs.YtikaoikladbdpaaGreat.M2
open Go.RowKit Go.Shelf

attribute [local go_sem] Oper.semAt_some

def WA (w : World) (p cb : Nat) (W : World) : Prop := Below w.heap.size w W ∧ W.heap[cb]? = some (.cells #[.pointer (some ⟨p, 0, none⟩)] 39 (0, 0))

section
variable {w : World} {B p cb : Nat} {size st : Int} {zs : List Int}

end

end Go.Proofs.YtikaoikladbdpaaGreat.M2
namespace Go.Proofs.YtikaoikladbdpaaGreat.M2
open Go.RowKit Go.Shelf

theorem infoInt : (Tryz.prog.info? 3).map (fun i => (i.zero, i.size, i.bytes)) = some (some (.int .i64 0), 1, 8) := by kernel_rfl

def LB (n lb : Nat) (xs : List Int) (W : World) : Prop := ∃ v, Go.Boxed W lb 33 v ∧ W.ownsRow n 3 1 v xs.length (xs.map (Value.int .i64))
section
variable {w A A' W W' : World} {n lb s : Nat} {xs : List Int} {F : Nat → Prop}
theorem LB.row {v : Value} (h : W.ownsRow n 3 1 v xs.length (xs.map (Value.int .i64))) (g : Nat) (hg : v.ownBlock = some g) : ∃ cs, W.heap[g]? = some (Obj.cells cs 3 (0, 0)) ∧ n ≤ g := by
  rcases h.2 with ⟨rfl, _⟩ | ⟨g', cap, cur, rfl, hb, hg', _⟩
  · simp [Value.ownBlock] at hg
  · simp only [Value.ownBlock, Option.some.injEq] at hg
    subst hg
    exact ⟨_, hg', hb⟩

end

def IntsNew (w : World) (zs : List Int) (v : Value) (w' : World) : Prop := ∃ ao cap, v = .slice ao zs.length cap ∧ Reads .i64 w' ao zs.length zs ∧ Below w.heap.size w w'

def ints (ps : List Nat) : List Int := ps.map fun a : Nat => (a : Int)
theorem ints_len (ps : List Nat) : (ints ps).length = ps.length := by simp [ints]
end Go.Proofs.YtikaoikladbdpaaGreat.M2
namespace Go.Proofs.YtikaoikladbdpaaGreat.M2
open Go.RowKit Go.Shelf

attribute [local go_sem] Oper.semAt_some

section
variable {W W' : World} {wb mb g3 g6 g7 : Nat} {age pass : Int}
end

section
variable {w : World} {B p : Nat} {size st : Int} {zs : List Int} {ps : List Nat} {lost : Bool}

end

end Go.Proofs.YtikaoikladbdpaaGreat.M2
namespace Go.Proofs.YtikaoikladbdpaaGreat.M2
open Go.RowKit Go.Shelf

attribute [local go_sem] Oper.semAt_some

section
variable {w W W' : World} {B p wb mb cb g2 g3 g4 D : Nat} {size st : Int} {zs : List Int} {ps : List Nat} {lost : Bool}

end

end Go.Proofs.YtikaoikladbdpaaGreat.M2
namespace Go.Proofs.YtikaoikladbdpaaGreat.M2
open Go.RowKit Go.Shelf

attribute [local go_sem] Oper.semAt_some

section
variable {w : World} {B p : Nat} {size st : Int} {zs : List Int}

def IK (w : World) (p cb lb : Nat) (xs : Nat → List Int) (k : Nat) (W : World) : Prop := WA w p cb W ∧ LB w.heap.size lb (xs k) W
end

end Go.Proofs.YtikaoikladbdpaaGreat.M2
namespace Go.Proofs.YtikaoikladbdpaaGreat.M2
open Go.RowKit

structure Os (n : Nat) (os : List Nat) : Prop where
  isr : ∀ a ∈ os, ∃ j, j < n ∧ a = 3 + 5 * j
  nod : os.Nodup

theorem getD_mem {os : List Nat} {t : Nat} (h : t < os.length) : os.getD t 0 ∈ os := by simp [List.getD, h]
theorem Os.at {n : Nat} {os : List Nat} (h : Os n os) {t : Nat} (ht : t < os.length) : ∃ j, j < n ∧ os.getD t 0 = 3 + 5 * j := h.isr _ (getD_mem ht)
theorem Os.ne {n : Nat} {os : List Nat} (h : Os n os) {s t : Nat} (hs : s < os.length) (ht : t < os.length) (hne : s ≠ t) : os.getD s 0 ≠ os.getD t 0 := by
  intro e
  simp only [List.getD_eq_getElem?_getD, List.getElem?_eq_getElem hs, List.getElem?_eq_getElem ht, Option.getD_some] at e
  exact hne ((List.getElem_inj h.nod).1 e)
theorem Os.new {n : Nat} {os : List Nat} (h : Os n os) {k : Nat} (hk : k < os.length) : os.getD k 0 ∉ os.take k := by
  intro hm
  obtain ⟨t, ht, e⟩ := List.mem_iff_getElem.1 hm
  rw [List.length_take] at ht
  have : os.getD t 0 = os.getD k 0 := by rw [← e]; simp [List.getD, show t < os.length by omega]
  exact h.ne (by omega) hk (by omega) this
theorem Os.take {n : Nat} {os : List Nat} (h : Os n os) (k : Nat) : Os n (os.take k) := ⟨fun a ha => h.isr a (List.mem_of_mem_take ha), h.nod.sublist (List.take_sublist _ _)⟩
theorem order_next {od : List Nat} {k t : Nat} (h : od.Perm ((List.range k).map (fun j => 3 + 5 * j))) : (od.take t ++ [3 + 5 * k] ++ od.drop t).Perm ((List.range (k + 1)).map (fun j => 3 + 5 * j)) := by
  have h1 : (od.take t ++ [3 + 5 * k] ++ od.drop t).Perm ((3 + 5 * k) :: od) := by
    rw [List.append_assoc, List.singleton_append]
    have := List.perm_middle (a := 3 + 5 * k) (l₁ := od.take t) (l₂ := od.drop t)
    rwa [List.take_append_drop] at this
  refine h1.trans ?_
  rw [List.range_succ, List.map_append, List.map_singleton]
  refine (h.cons _).trans ?_
  exact (List.perm_append_singleton _ _).symm
theorem order_len {od : List Nat} {k : Nat} (h : od.Perm ((List.range k).map (fun j => 3 + 5 * j))) : od.length = k := by
  have := h.length_eq
  simpa using this
theorem order_os {od : List Nat} {n : Nat} (h : od.Perm ((List.range n).map (fun j => 3 + 5 * j))) : Os n od := by
  refine ⟨fun a ha => ?_, h.nodup_iff.2 ?_⟩
  · obtain ⟨j, hj, e⟩ := List.mem_map.1 (h.mem_iff.1 ha)
    exact ⟨j, by simpa using hj, e.symm⟩
  · exact List.Pairwise.map _ (fun a b hab => by have : a ≠ b := hab; show 3 + 5 * a ≠ 3 + 5 * b; omega) List.nodup_range

structure ChK (n : Nat) (os : List Nat) (k : Nat) (zs : List Int) : Prop where
  len : zs.length = 3 + 5 * n
  z2 : zs.getD 2 0 = 50
  z1 : zs.getD 1 0 = if k = 0 then 0 else ((os.getD 0 0 : Nat) : Int)
  rq : ∀ j, j < n → zs.getD (3 + 5 * j) 0 = 0
  ac : ∀ j, j < n → zs.getD (3 + 5 * j + 1) 0 = if 3 + 5 * j ∈ os.take k then 1 else 0
  ag : ∀ j, j < n → 0 ≤ zs.getD (3 + 5 * j + 2) 0 ∧ zs.getD (3 + 5 * j + 2) 0 ≤ 255
  nx : ∀ t, t + 1 < k → zs.getD (os.getD t 0 + 3) 0 = ((os.getD (t + 1) 0 : Nat) : Int)
  nz : ∀ j, j < n → 3 + 5 * j ∉ os.take (k - 1) → zs.getD (3 + 5 * j + 3) 0 = 0
  big : ∀ z ∈ zs, z ≤ 1000

theorem big_set {zs : List Int} {a : Nat} {x : Int} (h : ∀ z ∈ zs, z ≤ 1000) (hx : x ≤ 1000) : ∀ z ∈ zs.set a x, z ≤ 1000 := by
  intro z hz
  rcases List.mem_or_eq_of_mem_set hz with hz | rfl
  · exact h z hz
  · exact hx

theorem ChK.start (n : Nat) (os : List Nat) : ChK n os 0 ((List.replicate (3 + 5 * n) 0).set 2 50) := by
  have hr : ∀ i, (List.replicate (3 + 5 * n) (0 : Int)).getD i 0 = 0 := by
    intro i
    by_cases hi : i < 3 + 5 * n
    · simp [List.getD, hi]
    · simp [List.getD, Nat.le_of_not_lt hi]
  refine ⟨by simp, ?_, ?_, fun j _ => ?_, fun j _ => ?_, fun j _ => ?_, fun t ht => by omega, fun j _ _ => ?_, big_set (fun z hz => by have := (List.mem_replicate.1 hz).2; omega) (by omega)⟩
  · rw [getD_set, if_pos (by simp; omega)]
  · rw [getD_set, if_neg (by omega), hr]; rfl
  · rw [getD_set, if_neg (by omega), hr]
  · rw [getD_set, if_neg (by omega), hr]; simp
  · rw [getD_set, if_neg (by omega), hr]; omega
  · rw [getD_set, if_neg (by omega), hr]

theorem ChK.age {n : Nat} {os : List Nat} {k q : Nat} {zs : List Int} {g : Int} (h : ChK n os k zs) (hn : n ≤ 100) (hos : Os n os) (hk : k ≤ os.length) (hq : q < n) (g0 : 0 ≤ g) (g1 : g ≤ 255) : ChK n os k (zs.set (3 + 5 * q + 2) g) := by
  refine ⟨by rw [List.length_set]; exact h.len, ?_, ?_, fun j hj => ?_, fun j hj => ?_, fun j hj => ?_, fun t ht => ?_, fun j hj hm => ?_, big_set h.big (by omega)⟩
  · rw [getD_set, if_neg (by omega)]; exact h.z2
  · rw [getD_set, if_neg (by omega)]; exact h.z1
  · rw [getD_set, if_neg (by omega)]; exact h.rq j hj
  · rw [getD_set, if_neg (by omega)]; exact h.ac j hj
  · rw [getD_set]
    split
    · omega
    · exact h.ag j hj
  · obtain ⟨j, _, e⟩ := hos.at (t := t) (by omega)
    rw [getD_set, if_neg (by omega)]; exact h.nx t ht
  · rw [getD_set, if_neg (by omega)]; exact h.nz j hj hm

def hang (os : List Nat) (k : Nat) (zs : List Int) : List Int := if k = 0 then zs.set 1 ((os.getD 0 0 : Nat) : Int) else zs.set (os.getD (k - 1) 0 + 3) ((os.getD k 0 : Nat) : Int)
theorem hang_len (os : List Nat) (k : Nat) (zs : List Int) : (hang os k zs).length = zs.length := by unfold hang; split <;> simp

theorem ChK.go {n : Nat} {os : List Nat} {k : Nat} {zs : List Int} (h : ChK n os k zs) (hn : n ≤ 100) (hos : Os n os) (hk : k < os.length) : ChK n os (k + 1) ((hang os k zs).set (os.getD k 0 + 1) 1) := by
  obtain ⟨q, hq, eq⟩ := hos.at hk
  have hl := h.len
  have hnew := hos.new hk
  have hL : (hang os k zs).length = 3 + 5 * n := by rw [hang_len, hl]
  -- a cell that is none of the two
  have hh : ∀ i, i ≠ 1 → (∀ j, j < n → i ≠ 3 + 5 * j + 3) → (hang os k zs).getD i 0 = zs.getD i 0 := by
    intro i h1 h2
    unfold hang
    split
    · rw [getD_set, if_neg (by omega)]
    · obtain ⟨r, hr, er⟩ := hos.at (t := k - 1) (by omega)
      have := h2 r hr
      rw [getD_set, if_neg (by omega)]
  have hother : ∀ i, i ≠ 1 → (∀ j, j < n → i ≠ 3 + 5 * j + 3) → i ≠ 3 + 5 * q + 1 → ((hang os k zs).set (os.getD k 0 + 1) 1).getD i 0 = zs.getD i 0 := by
    intro i h1 h2 h3
    rw [getD_set, if_neg (by omega), hh i h1 h2]
  refine ⟨by rw [List.length_set, hL], ?_, ?_, fun j hj => ?_, fun j hj => ?_, fun j hj => ?_, fun t ht => ?_, fun j hj hm => ?_, ?_⟩
  · rw [hother 2 (by omega) (fun j _ => by omega) (by omega)]; exact h.z2
  · rw [getD_set, if_neg (by omega), if_neg (by omega)]
    unfold hang
    split
    · rw [getD_set, if_pos (by omega)]
    · rename_i hk0
      obtain ⟨r, hr, er⟩ := hos.at (t := k - 1) (by omega)
      rw [getD_set, if_neg (by omega), h.z1, if_neg hk0]
  · rw [hother _ (by omega) (fun j _ => by omega) (by omega)]; exact h.rq j hj
  · by_cases e : j = q
    · subst e
      rw [getD_set, if_pos (by omega), if_pos (by rw [take_next hk, eq]; simp)]
    · rw [hother _ (by omega) (fun j _ => by omega) (by omega), h.ac j hj]
      have : (3 + 5 * j ∈ os.take (k + 1)) ↔ 3 + 5 * j ∈ os.take k := by
        rw [take_next hk, List.mem_append, List.mem_singleton]
        constructor
        · rintro (h | h)
          · exact h
          · omega
        · exact .inl
      simp only [this]
  · rw [hother _ (by omega) (fun j _ => by omega) (by omega)]; exact h.ag j hj
  · obtain ⟨r, hr, er⟩ := hos.at (t := t) (by omega)
    rw [getD_set, if_neg (by omega)]
    unfold hang
    split
    · omega
    · obtain ⟨r2, hr2, er2⟩ := hos.at (t := k - 1) (by omega)
      by_cases e : t = k - 1
      · subst e
        rw [getD_set, if_pos (by omega), show k - 1 + 1 = k by omega]
      · have := hos.ne (s := t) (t := k - 1) (by omega) (by omega) e
        rw [getD_set, if_neg (by omega)]
        exact h.nx t (by omega)
  · rw [getD_set, if_neg (by omega)]
    rw [Nat.add_sub_cancel] at hm
    unfold hang
    split
    · rename_i hk0
      rw [getD_set, if_neg (by omega)]
      exact h.nz j hj (by rw [hk0]; simp)
    · obtain ⟨r, hr, er⟩ := hos.at (t := k - 1) (by omega)
      have hne : 3 + 5 * j ≠ os.getD (k - 1) 0 := by
        intro e
        apply hm
        rw [e]
        have ht := take_next (ps := os) (k := k - 1) (by omega)
        rw [show k - 1 + 1 = k by omega] at ht
        rw [ht]; simp
      rw [getD_set, if_neg (by omega)]
      refine h.nz j hj (fun hm2 => hm ?_)
      have ht := take_next (ps := os) (k := k - 1) (by omega)
      rw [show k - 1 + 1 = k by omega] at ht
      rw [ht, List.mem_append]
      exact .inl hm2
  · refine big_set ?_ (by omega)
    unfold hang
    split
    · obtain ⟨r, hr, er⟩ := hos.at (t := 0) (by omega)
      exact big_set h.big (by omega)
    · exact big_set h.big (by omega)

end Go.Proofs.YtikaoikladbdpaaGreat.M2
namespace Go.Proofs.YtikaoikladbdpaaGreat.M2
open Go.RowKit

theorem mn_chn (n : Nat) : mn (3 + 5 * n) = n := by unfold mn; omega

section
variable {n k : Nat} {os : List Nat} {zs : List Int}

theorem ChK.at_ (h : ChK n os os.length zs) {t : Nat} (ht : t < os.length) : vAt zs os t = ((os.getD t 0 : Nat) : Int) := by
  unfold vAt
  by_cases h0 : t = 0
  · subst h0
    rw [if_pos rfl, h.z1, if_neg (by omega)]
  · rw [if_neg h0, h.nx (t - 1) (by omega), show t - 1 + 1 = t by omega]
theorem ChK.end_ (h : ChK n os os.length zs) (hos : Os n os) : vAt zs os os.length = 0 := by
  unfold vAt
  by_cases h0 : os.length = 0
  · rw [if_pos h0, h.z1, if_pos h0]
  · obtain ⟨j, hj, e⟩ := hos.at (t := os.length - 1) (by omega)
    rw [if_neg h0, e]
    exact h.nz j hj (by rw [← e]; exact hos.new (by omega))

theorem vAt_set {zs : List Int} {ps : List Nat} {i t : Nat} {x : Int} (h1 : i ≠ 1 ∨ t ≠ 0) (h2 : t ≠ 0 → i ≠ ps.getD (t - 1) 0 + 3) : vAt (zs.set i x) ps t = vAt zs ps t := by
  unfold vAt
  by_cases h0 : t = 0
  · rw [if_pos h0, if_pos h0, getD_set, if_neg (by omega)]
  · have := h2 h0
    rw [if_neg h0, if_neg h0, getD_set, if_neg (by omega)]

end

end Go.Proofs.YtikaoikladbdpaaGreat.M2
namespace Go.Proofs.YtikaoikladbdpaaGreat.M2
open Go.RowKit

def Run (pa k m : Int) (S : SS) (n : Nat) (S' : SS) (al : List It3) : Prop := goS pa k m S n = S' ∧ (∀ i, i < n → srv (goS pa k m S i) = true) ∧ alS pa k m S n = al

section
variable {pa k m : Int} {S S' S'' : SS} {a b : Nat} {x y : List It3}
theorem goS_add (pa k m : Int) (S : SS) (a : Nat) : ∀ b, goS pa k m S (a + b) = goS pa k m (goS pa k m S a) b
  | 0 => rfl
  | b + 1 => by rw [← Nat.add_assoc]; show ssStep pa k m (goS pa k m S (a + b)) = _; rw [goS_add pa k m S a b]; rfl
theorem alS_add (pa k m : Int) (S : SS) (a : Nat) : ∀ b, alS pa k m S (a + b) = alS pa k m S a ++ alS pa k m (goS pa k m S a) b
  | 0 => by simp [alS]
  | b + 1 => by
    rw [← Nat.add_assoc]
    show alS pa k m S (a + b) ++ (goS pa k m S (a + b + 1)).dn = _
    rw [alS_add pa k m S a b, Nat.add_assoc a b 1, goS_add pa k m S a (b + 1), List.append_assoc]
    rfl
theorem Run.trans (h : Run pa k m S a S' x) (g : Run pa k m S' b S'' y) : Run pa k m S (a + b) S'' (x ++ y) := by
  obtain ⟨h1, h2, h3⟩ := h
  obtain ⟨g1, g2, g3⟩ := g
  refine ⟨by rw [goS_add, h1, g1], fun i hi => ?_, by rw [alS_add, h1, h3, g3]⟩
  by_cases hlt : i < a
  · exact h2 i hlt
  · obtain ⟨r, rfl⟩ : ∃ r, i = a + r := ⟨i - a, by omega⟩
    rw [goS_add, h1]
    exact g2 r (by omega)
theorem Run.one (hs : 20 ≤ S.t.pc ∧ S.t.pc ≤ 39) (h : ssStep pa k m S = S') : Run pa k m S 1 S' S'.dn :=
  ⟨h, fun i hi => by obtain rfl : i = 0 := by omega
                     exact decide_eq_true hs, by show [] ++ (ssStep pa k m S).dn = _; rw [h]; rfl⟩
theorem Run.cell {C : Cs} (hs : 20 ≤ S.t.pc ∧ S.t.pc ≤ 39) (hp : S.t.pc ≠ 36) (h : cst pa S.t S.zs S.l = C) : Run pa k m S 1 ⟨C.t, C.l, C.zs, S.c + C.c, S.s, []⟩ [] :=
  Run.one hs (by unfold ssStep; rw [if_neg hp, h])
end

theorem ad_at {x : Nat} {i : Nat} (h : x + i ≤ 100000) : ad (x : Int) (i : Int) = ((x + i : Nat) : Int) := by unfold ad wrap64; omega
theorem ld_at {zs : List Int} {x : Nat} (h : x < zs.length) : ld zs (x : Int) = zs.getD x 0 := by
  unfold ld
  rw [if_pos (by omega), Int.toNat_natCast]
theorem bs_at {j : Nat} (h : j ≤ 1000) : bs (j : Int) = ((3 + 5 * j : Nat) : Int) := by rw [bs_in (by omega) (by omega)]; omega
theorem onT_at {t : Th} {j n : Nat} (hj : t.nt = (j : Int)) (hm : t.mx = (n : Int)) (hn : j ≤ 1000) : onT t = { t with nt := ((j + 1 : Nat) : Int), pc := if j + 1 < n then 23 else 33 } := by
  have e : ad t.nt 1 = ((j + 1 : Nat) : Int) := by rw [hj]; exact ad_at (i := 1) (by omega)
  unfold onT
  rw [e, hm]
  by_cases h : j + 1 < n
  · rw [if_pos h, decide_eq_true (by omega)]; rfl
  · rw [if_neg h, decide_eq_false (by omega)]; rfl

structure Kept2 (S S' : SS) : Prop where
  ps : S'.t.ps = S.t.ps
  rn : S'.t.rn = S.t.rn
  l : S'.l = S.l
  s : S'.s = S.s

theorem helpOne {pa k m : Int} {n j : Nat} {S : SS} (hj : j < n) (hn : n ≤ 100) (hl : S.zs.length = 3 + 5 * n) (hz : S.zs.getD (3 + 5 * j) 0 ≤ 0) (hp : S.t.pc = 23) (hnt : S.t.nt = (j : Int)) (hmx : S.t.mx = (n : Int)) :
    ∃ r S', Run pa k m S r S' [] ∧ r ≤ 2 ∧ S'.t.pc = (if j + 1 < n then 23 else 33) ∧ S'.t.nt = ((j + 1 : Nat) : Int) ∧ S'.t.mx = (n : Int) ∧ S'.zs = S.zs ∧ Kept2 S S' := by
  have hb : bs S.t.nt = ((3 + 5 * j : Nat) : Int) := by rw [hnt]; exact bs_at (by omega)
  have e23 := cst23 pa S.t S.zs S.l hp
  rw [hb] at e23
  have r1 := Run.cell (k := k) (m := m) (by omega) (by omega) e23
  by_cases ha : ld S.zs (ad ((3 + 5 * j : Nat) : Int) 1) = 0
  · have e2 : hlT (ld S.zs (ad ((3 + 5 * j : Nat) : Int) 1) == 0) 24 { S.t with cu := ((3 + 5 * j : Nat) : Int), lk := ld S.zs (ad ((3 + 5 * j : Nat) : Int) 1) } = { S.t with cu := ((3 + 5 * j : Nat) : Int), lk := 0, pc := 24 } := by rw [ha]; rfl
    rw [e2] at r1
    have e24 := cst24 pa { S.t with cu := ((3 + 5 * j : Nat) : Int), lk := 0, pc := 24 } S.zs S.l rfl
    have hc : ad ((3 + 5 * j : Nat) : Int) 0 = ((3 + 5 * j : Nat) : Int) := ad_at (i := 0) (by omega)
    have hq : ¬ 0 < ld S.zs ((3 + 5 * j : Nat) : Int) := by rw [ld_at (by omega)]; omega
    have hd : decide (0 < ld S.zs (ad ((3 + 5 * j : Nat) : Int) 0)) = false := by rw [hc]; exact decide_eq_false hq
    have r2 := Run.cell (k := k) (m := m) (S := ⟨{ S.t with cu := ((3 + 5 * j : Nat) : Int), lk := 0, pc := 24 }, S.l, S.zs, S.c + cn S.zs (ad ((3 + 5 * j : Nat) : Int) 1), S.s, []⟩) (by show (20 : Int) ≤ 24 ∧ (24 : Int) ≤ 39; omega) (by show (24 : Int) ≠ 36; omega) e24
    have r := r1.trans r2
    rw [hd] at r
    refine ⟨_, _, r, by omega, ?_, ?_, hmx, rfl, ⟨rfl, rfl, rfl, rfl⟩⟩
    · exact (congrArg Th.pc (@onT_at _ j n hnt hmx (by omega)))
    · exact (congrArg Th.nt (@onT_at _ j n hnt hmx (by omega)))
  · have hd : (ld S.zs (ad ((3 + 5 * j : Nat) : Int) 1) == 0) = false := by simpa using ha
    rw [hd] at r1
    refine ⟨_, _, r1, by omega, ?_, ?_, hmx, rfl, ⟨rfl, rfl, rfl, rfl⟩⟩
    · exact (congrArg Th.pc (@onT_at _ j n hnt hmx (by omega)))
    · exact (congrArg Th.nt (@onT_at _ j n hnt hmx (by omega)))

theorem helpNone {pa k m : Int} {n : Nat} (hn : n ≤ 100) : ∀ (d j : Nat) (S : SS), j + (d + 1) = n → S.zs.length = 3 + 5 * n → (∀ i, i < n → S.zs.getD (3 + 5 * i) 0 ≤ 0) → S.t.pc = 23 → S.t.nt = (j : Int) → S.t.mx = (n : Int) →
    ∃ r S', Run pa k m S r S' [] ∧ r ≤ 2 * (d + 1) ∧ S'.t.pc = 33 ∧ S'.zs = S.zs ∧ Kept2 S S' := by
  intro d
  induction d with
  | zero =>
    intro j S hd hl hz hp hnt hmx
    obtain ⟨r, S', h1, h2, h3, h4, h5, h6, h7⟩ := helpOne (pa := pa) (k := k) (m := m) (j := j) (by omega) hn hl (hz j (by omega)) hp hnt hmx
    rw [if_neg (by omega)] at h3
    exact ⟨r, S', h1, by omega, h3, h6, h7⟩
  | succ d ih =>
    intro j S hd hl hz hp hnt hmx
    obtain ⟨r, S', h1, h2, h3, h4, h5, h6, h7⟩ := helpOne (pa := pa) (k := k) (m := m) (j := j) (by omega) hn hl (hz j (by omega)) hp hnt hmx
    rw [if_pos (by omega)] at h3
    obtain ⟨r', S2, g1, g2, g3, g4, g5⟩ := ih (j + 1) S' (by omega) (by rw [h6]; exact hl) (by rw [h6]; exact hz) h3 h4 h5
    exact ⟨r + r', S2, h1.trans g1, by omega, g3, by rw [g4, h6], ⟨g5.ps.trans h7.ps, g5.rn.trans h7.rn, g5.l.trans h7.l, g5.s.trans h7.s⟩⟩

theorem scanNone {pa k m : Int} {zs : List Int} {n : Nat} {os : List Nat} (hl : zs.length = 3 + 5 * n) (hn : n ≤ 100) (hos : Os n os) (hz : ∀ j, j < n → zs.getD (3 + 5 * j) 0 ≤ 0) (hv : ∀ t, t < os.length → vAt zs os t = ((os.getD t 0 : Nat) : Int)) (he : vAt zs os os.length = 0) :
    ∀ (d t : Nat) (S : SS), t + (d + 1) = os.length → S.t.pc = 34 → S.t.cu = ((os.getD t 0 : Nat) : Int) → S.zs = zs → S.l = [] →
    ∃ r S', Run pa k m S r S' [] ∧ r ≤ 2 * (d + 1) ∧ S'.t.pc = 40 ∧ S'.zs = zs ∧ Kept2 S S' := by
  intro d
  induction d with
  | zero =>
    intro t S hd hp hcu hzs hL
    obtain ⟨j, hj, ej⟩ := hos.at (t := t) (by omega)
    have e34 := cst34 pa S.t S.zs S.l hp
    have hc0 : ad S.t.cu 0 = ((3 + 5 * j : Nat) : Int) := by rw [hcu, ej]; exact ad_at (i := 0) (by omega)
    have hq : ¬ 0 < ld S.zs ((3 + 5 * j : Nat) : Int) := by rw [hzs, ld_at (by omega)]; have := hz j hj; omega
    rw [hc0, if_neg hq] at e34
    have r1 := Run.cell (k := k) (m := m) (by omega) (by omega) e34
    have e35 := cst35 pa { S.t with lk := ld S.zs ((3 + 5 * j : Nat) : Int), pc := 35 } S.zs S.l rfl
    have hc3 : ad S.t.cu 3 = ((3 + 5 * j + 3 : Nat) : Int) := by rw [hcu, ej]; exact ad_at (i := 3) (by omega)
    have hnx : ld S.zs ((3 + 5 * j + 3 : Nat) : Int) = 0 := by
      rw [hzs, ld_at (by omega)]
      have h1 := he
      unfold vAt at h1
      rw [if_neg (by omega), show os.length - 1 = t by omega, ej] at h1
      exact h1
    have r2 := Run.cell (k := k) (m := m) (S := ⟨{ S.t with lk := ld S.zs ((3 + 5 * j : Nat) : Int), pc := 35 }, S.l, S.zs, S.c + cn S.zs ((3 + 5 * j : Nat) : Int), S.s, []⟩) (by show (20 : Int) ≤ 35 ∧ (35 : Int) ≤ 39; omega) (by show (35 : Int) ≠ 36; omega) e35
    have r := r1.trans r2
    have hf : (foT (if S.l.length = 0 then 40 else 36) { S.t with lk := ld S.zs (ad S.t.cu 3), pc := 35 }) = { S.t with lk := 0, pc := 40 } := by
      rw [hc3, hnx, hL]; rfl
    refine ⟨_, _, r, by omega, ?_, hzs, ?_, ?_, rfl, rfl⟩
    · exact (congrArg Th.pc hf)
    · exact (congrArg Th.ps hf).trans rfl
    · exact (congrArg Th.rn hf).trans rfl
  | succ d ih =>
    intro t S hd hp hcu hzs hL
    obtain ⟨j, hj, ej⟩ := hos.at (t := t) (by omega)
    have e34 := cst34 pa S.t S.zs S.l hp
    have hc0 : ad S.t.cu 0 = ((3 + 5 * j : Nat) : Int) := by rw [hcu, ej]; exact ad_at (i := 0) (by omega)
    have hq : ¬ 0 < ld S.zs ((3 + 5 * j : Nat) : Int) := by rw [hzs, ld_at (by omega)]; have := hz j hj; omega
    rw [hc0, if_neg hq] at e34
    have r1 := Run.cell (k := k) (m := m) (by omega) (by omega) e34
    have e35 := cst35 pa { S.t with lk := ld S.zs ((3 + 5 * j : Nat) : Int), pc := 35 } S.zs S.l rfl
    have hc3 : ad S.t.cu 3 = ((3 + 5 * j + 3 : Nat) : Int) := by rw [hcu, ej]; exact ad_at (i := 3) (by omega)
    obtain ⟨j2, hj2, ej2⟩ := hos.at (t := t + 1) (by omega)
    have hnx : ld S.zs ((3 + 5 * j + 3 : Nat) : Int) = ((os.getD (t + 1) 0 : Nat) : Int) := by
      rw [hzs, ld_at (by omega)]
      have h1 := hv (t + 1) (by omega)
      unfold vAt at h1
      rw [if_neg (by omega), show t + 1 - 1 = t by omega, ej] at h1
      exact h1
    have r2 := Run.cell (k := k) (m := m) (S := ⟨{ S.t with lk := ld S.zs ((3 + 5 * j : Nat) : Int), pc := 35 }, S.l, S.zs, S.c + cn S.zs ((3 + 5 * j : Nat) : Int), S.s, []⟩) (by show (20 : Int) ≤ 35 ∧ (35 : Int) ≤ 39; omega) (by show (35 : Int) ≠ 36; omega) e35
    have r := r1.trans r2
    have hf : (foT (if S.l.length = 0 then 40 else 36) { S.t with lk := ld S.zs (ad S.t.cu 3), pc := 35 }) = { S.t with lk := ((os.getD (t + 1) 0 : Nat) : Int), cu := ((os.getD (t + 1) 0 : Nat) : Int), pc := 34 } := by
      rw [hc3, hnx]
      unfold foT
      rw [if_neg (by show ((os.getD (t + 1) 0 : Nat) : Int) ≠ 0; rw [ej2]; omega)]
    obtain ⟨r', S2, g1, g2, g3, g4, g5⟩ := ih (t + 1) ⟨foT (if S.l.length = 0 then 40 else 36) { S.t with lk := ld S.zs (ad S.t.cu 3), pc := 35 }, S.l, S.zs, S.c + cn S.zs ((3 + 5 * j : Nat) : Int) + cn S.zs (ad S.t.cu 3), S.s, []⟩ (by omega) (congrArg Th.pc hf) (congrArg Th.cu hf) hzs hL
    exact ⟨_, S2, r.trans g1, by omega, g3, g4, ⟨g5.ps.trans ((congrArg Th.ps hf).trans rfl), g5.rn.trans ((congrArg Th.rn hf).trans rfl), g5.l, g5.s⟩⟩

theorem passNone {pa k m : Int} {zs : List Int} {c : Int} {n : Nat} {os : List Nat} {s : List It × List Bool} (h0 : 1 ≤ n) (hn : n ≤ 100) (hC : ChK n os os.length zs) (hos : Os n os) (hle : os.length ≤ n) :
    ∃ r S', Run pa k m ⟨{ t0 with pc := 20 }, [], zs, c, s, []⟩ r S' [] ∧ r ≤ 2 * n + 2 * n + 4 ∧ S'.t.pc = 40 ∧ S'.t.ps = 51 ∧ S'.t.rn = 1 ∧ S'.zs = zs.set 2 51 ∧ S'.s = s := by
  have hl := hC.len
  have r20 := Run.cell (k := k) (m := m) (S := ⟨{ t0 with pc := 20 }, [], zs, c, s, []⟩) (by show (20 : Int) ≤ 20 ∧ (20 : Int) ≤ 39; omega) (by show (20 : Int) ≠ 36; omega) (cst20 pa { t0 with pc := 20 } zs [] rfl)
  have e50 : ld zs 2 = 50 := by have := ld_at (zs := zs) (x := 2) (by omega); rw [show ((2 : Nat) : Int) = 2 from rfl] at this; rw [this]; exact hC.z2
  rw [e50] at r20
  have e21 := cst21 pa { t0 with lk := 50, pc := 21 } zs [] rfl
  have ea : ad 50 1 = 51 := by unfold ad wrap64; omega
  have eb : ad 0 1 = 1 := by unfold ad wrap64; omega
  have es : sto zs 2 51 = zs.set 2 51 := if_pos (by omega)
  have r21 := Run.cell (k := k) (m := m) (S := ⟨{ t0 with lk := 50, pc := 21 }, [], zs, c + cn zs 2, s, []⟩) (by show (20 : Int) ≤ 21 ∧ (21 : Int) ≤ 39; omega) (by show (21 : Int) ≠ 36; omega) e21
  have e22 := cst22 pa { t0 with lk := 50, ps := 51, rn := 1, pc := 22 } (zs.set 2 51) [] rfl
  have r22 := Run.cell (k := k) (m := m) (S := ⟨{ t0 with lk := 50, ps := 51, rn := 1, pc := 22 }, [], zs.set 2 51, c + cn zs 2 + cn zs 2, s, []⟩) (by show (20 : Int) ≤ 22 ∧ (22 : Int) ≤ 39; omega) (by show (22 : Int) ≠ 36; omega) e22
  have hml : mn (zs.set 2 51).length = n := by rw [List.length_set, hl, mn_chn]
  rw [hml] at r22
  have hfk : fk (decide ((n : Int) = 0)) 33 23 = 23 := by rw [decide_eq_false (by omega)]; rfl
  rw [hfk] at r22
  have r21' : Run pa k m ⟨{ t0 with lk := 50, pc := 21 }, [], zs, c + cn zs 2, s, []⟩ 1 ⟨{ t0 with lk := 50, ps := 51, rn := 1, pc := 22 }, [], zs.set 2 51, c + cn zs 2 + cn zs 2, s, []⟩ [] := by
    have h := r21
    rw [show ad ({ t0 with lk := 50, pc := 21 } : Th).lk 1 = 51 from ea, show ad ({ t0 with lk := 50, pc := 21 } : Th).rn 1 = 1 from eb, es] at h
    exact h
  have ra := (r20.trans r21').trans r22
  have hz : ∀ i, i < n → (zs.set 2 51).getD (3 + 5 * i) 0 ≤ 0 := fun i hi => by
    rw [List.getD_eq_getElem?_getD, List.getElem?_set_ne (by omega), ← List.getD_eq_getElem?_getD, hC.rq i hi]
    exact Int.le_refl _
  have hv : ∀ t, vAt (zs.set 2 51) os t = vAt zs os t := fun t => vAt_set (i := 2) (.inl (by omega)) (fun ht e => by
    by_cases h1 : t - 1 < os.length
    · obtain ⟨j, _, ej⟩ := hos.at h1
      omega
    · have : os.getD (t - 1) 0 = 0 := by simp [List.getD, show ¬ t - 1 < os.length from h1]
      omega)
  obtain ⟨r1, S1, h1, h2, h3, h4, h5⟩ := helpNone (pa := pa) (k := k) (m := m) hn (n - 1) 0 ⟨{ t0 with lk := 50, ps := 51, rn := 1, mx := (n : Int), nt := 0, pc := 23 }, [], zs.set 2 51, c + cn zs 2 + cn zs 2 + 0, s, []⟩ (by omega) (by show (zs.set 2 51).length = _; rw [List.length_set, hl]) hz rfl rfl rfl
  have rb := ra.trans h1
  have e33 := cst33 pa S1.t S1.zs S1.l h3
  have hS1 : S1.zs = zs.set 2 51 := h4
  have hHd : ld S1.zs 1 = vAt (zs.set 2 51) os 0 := by
    have := ld_at (zs := S1.zs) (x := 1) (by rw [hS1, List.length_set]; omega)
    rw [show ((1 : Nat) : Int) = 1 from rfl] at this
    rw [this, hS1]
    rfl
  have r33 := Run.cell (k := k) (m := m) (by omega) (by omega) e33
  by_cases ho : os.length = 0
  · have hH : ld S1.zs 1 = 0 := by rw [hHd, hv 0]; have := hC.end_ hos; rw [ho] at this; exact this
    have hf : foT 40 { S1.t with lk := ld S1.zs 1 } = { S1.t with lk := 0, pc := 40 } := by rw [hH]; rfl
    refine ⟨_, _, rb.trans r33, by omega, congrArg Th.pc hf, (congrArg Th.ps hf).trans h5.ps, (congrArg Th.rn hf).trans h5.rn, hS1, h5.s⟩
  · obtain ⟨j0, hj0, ej0⟩ := hos.at (t := 0) (by omega)
    have hH : ld S1.zs 1 = ((os.getD 0 0 : Nat) : Int) := by rw [hHd, hv 0]; exact hC.at_ (by omega)
    have hf : foT 40 { S1.t with lk := ld S1.zs 1 } = { S1.t with lk := ((os.getD 0 0 : Nat) : Int), cu := ((os.getD 0 0 : Nat) : Int), pc := 34 } := by
      rw [hH]
      unfold foT
      rw [if_neg (by show ((os.getD 0 0 : Nat) : Int) ≠ 0; rw [ej0]; omega)]
    obtain ⟨r2, S2, g1, g2, g3, g4, g5⟩ := scanNone (pa := pa) (k := k) (m := m) (zs := zs.set 2 51) (n := n) (os := os) (by rw [List.length_set, hl]) hn hos hz (fun t ht => (hv t).trans (hC.at_ ht)) ((hv _).trans (hC.end_ hos)) (os.length - 1) 0 ⟨foT 40 { S1.t with lk := ld S1.zs 1 }, S1.l, S1.zs, S1.c + cn S1.zs 1, S1.s, []⟩ (by omega) (congrArg Th.pc hf) (congrArg Th.cu hf) hS1 h5.l
    exact ⟨_, S2, (rb.trans r33).trans g1, by omega, g3, g5.ps.trans ((congrArg Th.ps hf).trans h5.ps), g5.rn.trans ((congrArg Th.rn hf).trans h5.rn), g4, g5.s.trans h5.s⟩

end Go.Proofs.YtikaoikladbdpaaGreat.M2
namespace Go.Proofs.YtikaoikladbdpaaGreat.M2
open Go.RowKit

end Go.Proofs.YtikaoikladbdpaaGreat.M2
