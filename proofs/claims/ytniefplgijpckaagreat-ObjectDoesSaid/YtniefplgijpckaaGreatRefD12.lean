/-
  What reaperref04.Most and reaperref07's functions tell. Conditions: a list of at most a thousand items, that lies in memory. What reaperref07.Level tells. Conditions: a list of at most a thousand items, that lies in memory.
-/
import Derived.Test.YtniefplgijpckaaGreatPl11m
namespace Go.Proofs.YtniefplgijpckaaGreat
open Go.RowKit

theorem infoItem : (Tryz.prog.info? 87).map (fun i => (i.zero, i.size, i.bytes)) = some (some (.agg #[.int .i32 0, .int .i64 0]), 2, 16) := by kernel_rfl

/-- The cells of a list of items. -/
def flatI (l : List It) : List Value := l.flatMap fun i => [.int .i32 i.v, .int .i64 i.h]
theorem flatI_append (a b : List It) : flatI (a ++ b) = flatI a ++ flatI b := by simp [flatI]
theorem flatI_cons (i : It) (l : List It) : flatI (i :: l) = .int .i32 i.v :: .int .i64 i.h :: flatI l := rfl
theorem flatI_length : ∀ l : List It, (flatI l).length = l.length * 2
  | [] => rfl
  | i :: l => by rw [flatI_cons, List.length_cons, List.length_cons, flatI_length l, List.length_cons]; omega
theorem flatI_at : ∀ (l : List It) (k : Nat), k < l.length → (flatI l)[k * 2]? = some (.int .i32 (l.getD k ⟨0, 0⟩).v) ∧ (flatI l)[k * 2 + 1]? = some (.int .i64 (l.getD k ⟨0, 0⟩).h)
  | i :: l, 0, _ => ⟨rfl, rfl⟩
  | i :: l, k + 1, h => by
    have := flatI_at l k (by simpa using h)
    rw [flatI_cons, show (k + 1) * 2 = k * 2 + 1 + 1 by omega]
    simpa using this
theorem flatI_one (l : List It) : ∀ u ∈ flatI l, u.oneCell' = true := by
  intro u hu
  simp only [flatI, List.mem_flatMap, List.mem_cons, List.not_mem_nil, or_false] at hu
  obtain ⟨i, _, rfl | rfl⟩ := hu <;> rfl
theorem flatI_take {l : List It} {k j : Nat} {u : Value} (h : (flatI (l.take k))[j]? = some u) : (flatI l)[j]? = some u := by
  have e : flatI l = flatI (l.take k) ++ flatI (l.drop k) := by rw [← flatI_append, List.take_append_drop]
  have hj : j < (flatI (l.take k)).length := by
    rcases Nat.lt_or_ge j (flatI (l.take k)).length with h1 | h1
    · exact h1
    · simp [h1] at h
  rw [e, List.getElem?_append_left hj, h]
theorem flatI_drop {l : List It} {k j : Nat} {u : Value} (hk : k ≤ l.length) (h : (flatI (l.drop k))[j]? = some u) : (flatI l)[k * 2 + j]? = some u := by
  have e : flatI l = flatI (l.take k) ++ flatI (l.drop k) := by rw [← flatI_append, List.take_append_drop]
  have hl : (flatI (l.take k)).length = k * 2 := by rw [flatI_length, List.length_take, Nat.min_eq_left hk]
  rw [e, List.getElem?_append_right (by omega), hl, Nat.add_sub_cancel_left, h]

/-- A slice's elements are these items. -/
def ItemsAt (w : World) (ao : Option Addr) (n : Nat) (l : List It) : Prop :=
  l.length = n ∧ (0 < n → ∃ b off, ao = some ⟨b, off, none⟩ ∧ b < w.heap.size ∧ ∀ j u, (flatI l)[j]? = some u → w.cell? ⟨b, off + j, none⟩ = some u)

section
variable {w w' : World} {ao : Option Addr} {n k cap : Nat} {l : List It}
theorem ItemsAt.nil (w : World) (ao : Option Addr) : ItemsAt w ao 0 [] := ⟨rfl, fun h => by omega⟩
theorem ItemsAt.keep (h : ItemsAt w ao n l) (hb : Below w.heap.size w w') : ItemsAt w' ao n l := by
  refine ⟨h.1, fun hp => ?_⟩
  obtain ⟨b, off, e, hl, hc⟩ := h.2 hp
  exact ⟨b, off, e, Nat.lt_of_lt_of_le hl hb.size, fun j u hu => (hb.cell (p := ⟨b, off + j, none⟩) hl).trans (hc j u hu)⟩
theorem ItemsAt.off {F : Nat → Prop} (h : ItemsAt w ao n l) (hF : 0 < n → Off F ao) (hb : Wrote F w w') : ItemsAt w' ao n l := by
  refine ⟨h.1, fun hp => ?_⟩
  obtain ⟨b, off, e, hl, hc⟩ := h.2 hp
  exact ⟨b, off, e, Nat.lt_of_lt_of_le hl hb.size, fun j u hu => (hb.cell (p := ⟨b, off + j, none⟩) hl (show ¬ F b from hF hp _ e)).trans (hc j u hu)⟩
theorem ItemsAt.lt (h : ItemsAt w ao n l) : 0 < n → ∀ a, ao = some a → a.block < w.heap.size := fun hp a e => by
  obtain ⟨b, off, e2, hb, _⟩ := h.2 hp
  rw [e2] at e
  injection e with e
  subst e
  exact hb
theorem ItemsAt.own {base : Nat} {v : Value} (h : w.ownsRow base 87 2 v n (flatI l)) : ∃ ao cap, v = .slice ao n cap ∧ ItemsAt w ao n l ∧ n ≤ cap ∧ (∀ a, ao = some a → base ≤ a.block) := by
  have hl : l.length = n := by have := h.1; rw [flatI_length] at this; omega
  have hcs := fun g hg => h.cells (g := g) hg
  rcases h.2 with ⟨rfl, rfl⟩ | ⟨g, cap, cur, rfl, hb, hg, hle, _⟩
  · exact ⟨_, _, rfl, ⟨hl, fun hp => by omega⟩, Nat.le_refl _, fun _ h => by simp at h⟩
  · refine ⟨_, _, rfl, ⟨hl, fun hp => ⟨g, 0, rfl, lt_of_block hg, fun j u hu => ?_⟩⟩, hle, fun a ha => by injection ha with ha; subst ha; exact hb⟩
    have := hcs g rfl j u hu
    simpa [Addr.add_lit] using this
theorem takeLen (h : ItemsAt w ao n l) (hk : k ≤ n) : (flatI (l.take k)).length = k * 2 := by rw [flatI_length, List.length_take, Nat.min_eq_left (by rw [h.1]; exact hk)]
theorem dropLen (h : ItemsAt w ao n l) : (flatI (l.drop k)).length = (n - k) * 2 := by rw [flatI_length, List.length_drop, h.1]
theorem dropNone (h : ItemsAt w ao k l) : (flatI (l.drop k)).length = 0 * 2 := by rw [flatI_length, List.length_drop, h.1, Nat.sub_self]
theorem srcTake (h : ItemsAt w ao n l) (hk : k ≤ n) : 0 < k → ∃ ad, ao = some ad ∧ ∀ j u, (flatI (l.take k))[j]? = some u → w.cell? (ad.add j) = some u := fun hp => by
  obtain ⟨b, off, rfl, _, hc⟩ := h.2 (by omega)
  refine ⟨⟨b, off, none⟩, rfl, fun j u hu => ?_⟩
  rw [Addr.add_lit]
  exact hc j u (flatI_take hu)
theorem srcDrop {b off : Nat} (h : ItemsAt w (some ⟨b, off, none⟩) n l) (hk : k < n) : 0 < n - k → ∃ ad, some (⟨b, off + k * 2, none⟩ : Addr) = some ad ∧ ∀ j u, (flatI (l.drop k))[j]? = some u → w.cell? (ad.add j) = some u := fun hp => by
  obtain ⟨b', off', e, _, hc⟩ := h.2 (by omega)
  simp only [Option.some.injEq, Addr.mk.injEq, and_true] at e
  obtain ⟨rfl, rfl⟩ := e
  refine ⟨⟨b, off + k * 2, none⟩, rfl, fun j u hu => ?_⟩
  rw [Addr.add_lit, Nat.add_assoc]
  exact hc _ u (flatI_drop (by rw [h.1]; omega) hu)
end

theorem newCells (w : World) (x hv : Int) : ∀ j u, (flatI [⟨x, hOf hv⟩])[j]? = some u → (w.alloc (.cells #[.int .i32 x, .int .i64 (if 1 < (if 8 < hv then 8 else hv) then (if 8 < hv then 8 else hv) else 1)] 87)).cell? ((⟨w.heap.size, 0, none⟩ : Addr).add j) = some u := by
  have e : (if 1 < (if 8 < hv then 8 else hv) then (if 8 < hv then 8 else hv) else 1) = ((hOf hv : Nat) : Int) := by unfold hOf; (repeat' split) <;> omega
  intro j u hu
  rw [e]
  rcases j with _ | _ | j <;> simp [flatI] at hu <;> subst hu <;> simp [Addr.add]

section
variable {w w1 w2 w3 : World} {a b c : Nat} {x1 x2 x3 : List Value} {v1 v2 v3 : Value} {o : Obj}
theorem insOne (q : w1.ownsRow w.heap.size 87 2 v1 (0 + a) ([] ++ x1)) (g : w.grownBy w1 (Value.ownBlock (.slice none 0 0))) : w1.ownsRow w.heap.size 87 2 v1 a x1 ∧ Below w.heap.size w w1 := by
  rw [Nat.zero_add, List.nil_append] at q
  exact ⟨q, (Below.refl _ w).grown g (Nat.le_refl _) (fun k e => by cases e)⟩
theorem insTwo (h : w1.ownsRow w.heap.size 87 2 v1 a x1 ∧ Below w.heap.size w w1) (q : w2.ownsRow w.heap.size 87 2 v2 (a + 1) (x1 ++ x2)) (g : (w1.alloc o).grownBy w2 v1.ownBlock) :
    w2.ownsRow w.heap.size 87 2 v2 (a + 1) (x1 ++ x2) ∧ Below w.heap.size w w2 :=
  ⟨q, (h.2.alloc h.2.size o).grown g (Nat.le_trans h.2.size (by simp)) (fun k e => (h.1.lt k e).1)⟩
theorem insThree (h : w2.ownsRow w.heap.size 87 2 v2 a x2 ∧ Below w.heap.size w w2) (q : w3.ownsRow w.heap.size 87 2 v3 b x3) (g : w2.grownBy w3 v2.ownBlock) :
    w3.ownsRow w.heap.size 87 2 v3 b x3 ∧ Below w.heap.size w w3 :=
  ⟨q, h.2.grown g h.2.size (fun k e => (h.1.lt k e).1)⟩
end

/-- What Insert of the document tells. -/
def InsPost (w : World) (ao : Option Addr) (mo : Int) (l : List It) (t : It) (e : Ending) (w' : World) : Prop :=
  ∃ ao' cap', e = .returned (.tuple #[.slice ao' (insL mo l t).length cap', .bool (decide ((l.length : Int) < mo))]) ∧ ItemsAt w' ao' (insL mo l t).length (insL mo l t) ∧ (insL mo l t).length ≤ cap' ∧ ((ao' = ao ∧ insL mo l t = l) ∨ ∀ a, ao' = some a → w.heap.size ≤ a.block) ∧ Below w.heap.size w w'

theorem its_split {l : List It} {k : Nat} {v : Int} (hk : k ≤ l.length) (h1 : ∀ j, j < k → (l.getD j ⟨0, 0⟩).v ≤ v) (h2 : k < l.length → v < (l.getD k ⟨0, 0⟩).v) :
    l.takeWhile (fun i => decide (i.v ≤ v)) = l.take k ∧ l.dropWhile (fun i => decide (i.v ≤ v)) = l.drop k := by
  induction l generalizing k with
  | nil => simp
  | cons i l ih =>
    cases k with
    | zero =>
      have := h2 (by simp)
      simp only [List.getD_cons_zero] at this
      simp [List.takeWhile_cons, List.dropWhile_cons, show ¬ i.v ≤ v by omega]
    | succ k =>
      have h0 := h1 0 (by omega)
      simp only [List.getD_cons_zero] at h0
      have := ih (k := k) (by simpa using hk) (fun j hj => by simpa using h1 (j + 1) (by omega)) (fun h => by simpa using h2 (by simpa using h))
      simp [List.takeWhile_cons, List.dropWhile_cons, h0, this.1, this.2]

theorem insDone {w w3 : World} {ao a3 : Option Addr} {n k cap3 : Nat} {l : List It} {mo : Int} {x hv : Int} {m : Nat} (hI : ItemsAt w ao n l) (hf : (n : Int) < mo)
    (h : w3.ownsRow w.heap.size 87 2 (.slice a3 m cap3) m ((flatI (l.take k) ++ flatI [⟨x, hOf hv⟩]) ++ flatI (l.drop k)) ∧ Below w.heap.size w w3) (hk : k ≤ n)
    (hs : (∀ j, j < k → (l.getD j ⟨0, 0⟩).v ≤ x) ∧ (k < n → x < (l.getD k ⟨0, 0⟩).v)) :
    InsPost w ao mo l ⟨x, hOf hv⟩ (.returned (.tuple #[.slice a3 m cap3, .bool true])) w3 := by
  have hl := hI.1
  subst hl
  obtain ⟨e1, e2⟩ := its_split hk hs.1 hs.2
  have e : insL mo l ⟨x, hOf hv⟩ = (l.take k ++ [⟨x, hOf hv⟩]) ++ l.drop k := by
    unfold insL insIt
    rw [if_pos hf]
    simp only
    rw [e1, e2]
    simp
  have hq := h.1
  rw [← flatI_append, ← flatI_append, ← e] at hq
  have hm : (insL mo l ⟨x, hOf hv⟩).length = m := by have := hq.1; rw [flatI_length] at this; omega
  obtain ⟨ao', cap', hv2, hi, hc, hb⟩ := ItemsAt.own hq
  injection hv2 with r1 _ r2
  subst r1 r2
  unfold InsPost
  rw [hm, decide_eq_true hf]
  exact ⟨_, _, rfl, hi, hc, .inr hb, h.2⟩

set_option maxRecDepth 100000 in
set_option maxHeartbeats 8000000 in
theorem refInsert (w : World) (most : Int) (ao : Option Addr) (n cap : Nat) (l : List It) (x hv : Int) (h : ItemsAt w ao n l) (hn : n ≤ 1000) (hcap : n ≤ cap) :
    Calls Tryz.prog 51 #[.int .i64 most, .slice ao n cap, .int .i32 x, .int .i64 hv] w (InsPost w ao (mostOf most) l ⟨x, hOf hv⟩) := by
  obtain ⟨i0, hi, hz0, hz1, hz2⟩ := info_parts infoItem
  have HI := Lib.hid h
  have M := refMost most w
  have hlen := h.1
  clear h
  generalize mostOf most = mo at *
  by_cases hf : (n : Int) < mo
  · have HA := Lib.hid hf
    have hf2 : ¬ mo ≤ (n : Int) := by omega
    clear hlen
    go_enter Tryz.func51, Tryz.ntmps51
    go_wp2_with fail
    refine M.mono ?_
    clear M
    rintro e w' ⟨rfl, rfl⟩
    go_wp2
    go_loopw [10] (fun i wr => ∃ k : Nat, k ≤ n ∧ i = .int .i64 k ∧ (∀ j, j < k → (l.getD j ⟨0, 0⟩).v ≤ x) ∧ w = wr) (fun i _ => n - (intOf i).toNat)
    case atStart => exact ⟨0, Nat.zero_le _, rfl, fun j h => by omega, rfl⟩
    case round =>
      obtain ⟨k, hk, rfl, hs, rfl⟩ := hrel
      have HS := Lib.hid hs
      clear hs
      have k0 : (0 : Int) ≤ (k : Int) := by omega
      have kc : (k : Int) ≤ cap := by omega
      have kn : (k : Int) ≤ n := by omega
      have nc : (n : Int) ≤ cap := by omega
      by_cases hlt : k < n
      · obtain ⟨b, off, rfl, hbl, hc⟩ := HI.out.2 (by omega)
        have c0 := hc _ _ (flatI_at l k (by rw [HI.out.1]; exact hlt)).1
        clear hc
        by_cases hgo : (l.getD k ⟨0, 0⟩).v ≤ x
        · have HN := Lib.hid (show ∀ j, j < k + 1 → (l.getD j ⟨0, 0⟩).v ≤ x from fun j hj => by
            by_cases e : j = k
            · subst e; exact hgo
            · exact HS.out j (by omega))
          generalize (l.getD k ⟨0, 0⟩).v = y at *
          go_wp2
          go_roundw
          case rel => exact ⟨k + 1, by omega, by go_num, HN.out, trivial⟩
          case measure => simp [intOf]; omega
        · have HF := Lib.hid (show (∀ j, j < k → (l.getD j ⟨0, 0⟩).v ≤ x) ∧ (k < n → x < (l.getD k ⟨0, 0⟩).v) from ⟨HS.out, fun _ => by omega⟩)
          generalize hy : (l.getD k ⟨0, 0⟩).v = y at c0 hgo
          clear hy
          go_wp2_with (first
            | (at_builtin; refine wpList_append_src _ rfl (.tmp 33) (.tmp 36) 55 rfl w.heap.size 87 i0 _ 2 16 Tryz.underlying55 hi hz0 hz1 hz2 rfl (by decide) (.slice none 0 0) 0 [] rfl (World.ownsRow_nil _ _ _ _) _ _ _ (flatI (l.take k)) rfl (takeLen HI.out hk) (srcTake HI.out hk) (flatI_one _) (by simp only [maxLen]; omega) (by omega) (Nat.le_refl _) ?_; intro v1 w1 q1 g1; obtain ⟨e1, e2⟩ := insOne q1 g1; obtain ⟨a1, cp1, rfl⟩ := ownShape e1; have HO1 := Lib.hid (And.intro e1 e2); clear q1 g1 e1 e2)
            | (at_builtin; refine wpList_append_own _ rfl (.tmp 38) (.tmp 44) 55 rfl w.heap.size 87 i0 _ 2 16 Tryz.underlying55 hi hz0 hz1 hz2 rfl (by decide) _ k _ rfl (HO1.out.1.alloc _) ⟨w1.heap.size, 0, none⟩ 1 1 (flatI [⟨x, hOf hv⟩]) rfl rfl (newCells w1 x hv) (flatI_one _) (by simp only [maxLen]; omega) (by omega) (Nat.le_trans HO1.out.2.size (by simp)) ?_; intro v2 w2 q2 g2 _; have HO2 := Lib.hid (insTwo HO1.out q2 g2); obtain ⟨a2, cp2, rfl⟩ := ownShape q2; clear q2 g2 HO1)
            | (at_builtin; refine wpList_append_src _ rfl (.tmp 46) (.tmp 49) 55 rfl w.heap.size 87 i0 _ 2 16 Tryz.underlying55 hi hz0 hz1 hz2 rfl (by decide) _ (k + 1) _ rfl HO2.out.1 _ _ _ (flatI (l.drop k)) rfl (dropLen HI.out) (srcDrop (HI.out.keep HO2.out.2) hlt) (flatI_one _) (by simp only [maxLen]; omega) (by omega) HO2.out.2.size ?_; intro v3 w3 q3 g3; have HO3 := Lib.hid (insThree HO2.out q3 g3); obtain ⟨a3, cp3, rfl⟩ := ownShape q3; clear q3 g3 HO2))
          all_goals (go_ret2; exact insDone HI.out HA.out HO3.out hk HF.out)
      · obtain rfl : k = n := by omega
        have HF := Lib.hid (show (∀ j, j < k → (l.getD j ⟨0, 0⟩).v ≤ x) ∧ (k < k → x < (l.getD k ⟨0, 0⟩).v) from ⟨HS.out, fun h => by omega⟩)
        go_wp2_with (first
          | (at_builtin; refine wpList_append_src _ rfl (.tmp 33) (.tmp 36) 55 rfl w.heap.size 87 i0 _ 2 16 Tryz.underlying55 hi hz0 hz1 hz2 rfl (by decide) (.slice none 0 0) 0 [] rfl (World.ownsRow_nil _ _ _ _) _ _ _ (flatI (l.take k)) rfl (takeLen HI.out hk) (srcTake HI.out hk) (flatI_one _) (by simp only [maxLen]; omega) (by omega) (Nat.le_refl _) ?_; intro v1 w1 q1 g1; obtain ⟨e1, e2⟩ := insOne q1 g1; obtain ⟨a1, cp1, rfl⟩ := ownShape e1; have HO1 := Lib.hid (And.intro e1 e2); clear q1 g1 e1 e2)
          | (at_builtin; refine wpList_append_own _ rfl (.tmp 38) (.tmp 44) 55 rfl w.heap.size 87 i0 _ 2 16 Tryz.underlying55 hi hz0 hz1 hz2 rfl (by decide) _ k _ rfl (HO1.out.1.alloc _) ⟨w1.heap.size, 0, none⟩ 1 1 (flatI [⟨x, hOf hv⟩]) rfl rfl (newCells w1 x hv) (flatI_one _) (by simp only [maxLen]; omega) (by omega) (Nat.le_trans HO1.out.2.size (by simp)) ?_; intro v2 w2 q2 g2 _; have HO2 := Lib.hid (insTwo HO1.out q2 g2); obtain ⟨a2, cp2, rfl⟩ := ownShape q2; clear q2 g2 HO1)
          | (at_builtin; refine wpList_append_src _ rfl (.tmp 46) (.tmp 49) 55 rfl w.heap.size 87 i0 _ 2 16 Tryz.underlying55 hi hz0 hz1 hz2 rfl (by decide) _ (k + 1) _ rfl HO2.out.1 _ _ _ (flatI (l.drop k)) rfl (dropNone HI.out) (fun h => absurd h (by omega)) (flatI_one _) (by simp only [maxLen]; omega) (by omega) HO2.out.2.size ?_; intro v3 w3 q3 g3; have HO3 := Lib.hid (insThree HO2.out q3 g3); obtain ⟨a3, cp3, rfl⟩ := ownShape q3; clear q3 g3 HO2))
        all_goals (go_ret2; exact insDone HI.out HA.out HO3.out hk HF.out)
  · have HE := Lib.hid (show insL mo l ⟨x, hOf hv⟩ = l by unfold insL; rw [if_neg (by rw [hlen]; exact hf)])
    have hf2 : mo ≤ (n : Int) := by omega
    go_enter Tryz.func51, Tryz.ntmps51
    go_wp2_with fail
    refine M.mono ?_
    clear M
    rintro e w' ⟨rfl, rfl⟩
    go_wp2
    go_ret2
    unfold InsPost
    rw [HE.out, hlen, decide_eq_false (Int.not_lt.2 hf2)]
    exact ⟨_, _, rfl, HI.out, hcap, .inl ⟨rfl, rfl⟩, Below.refl _ _⟩

end Go.Proofs.YtniefplgijpckaaGreat
namespace Go.Proofs.YtniefplgijpckaaGreat
open Go.RowKit

theorem lvl_le {l : List It} {k : Int} : (lvlOf l k).length ≤ l.length := by unfold lvlOf; rw [List.length_map]; exact List.length_filter_le _ _

theorem lvl_take_in {l : List It} {k : Nat} {lv : Int} (hk : k < l.length) (h : 1 ≤ lv ∧ lv ≤ ((l.getD k ⟨0, 0⟩).h : Int)) : lvlOf (l.take (k + 1)) lv = lvlOf (l.take k) lv ++ [(l.getD k ⟨0, 0⟩).v] := by
  have e : l.getD k ⟨0, 0⟩ = l[k] := by simp [List.getD, hk]
  rw [e] at h ⊢
  unfold lvlOf
  rw [List.take_succ_eq_append_getElem hk, List.filter_append, List.map_append]
  simp [h]
theorem lvl_take_out {l : List It} {k : Nat} {lv : Int} (hk : k < l.length) (h : ¬ (1 ≤ lv ∧ lv ≤ ((l.getD k ⟨0, 0⟩).h : Int))) : lvlOf (l.take (k + 1)) lv = lvlOf (l.take k) lv := by
  have e : l.getD k ⟨0, 0⟩ = l[k] := by simp [List.getD, hk]
  rw [e] at h
  unfold lvlOf
  rw [List.take_succ_eq_append_getElem hk, List.filter_append, List.map_append]
  simp only [List.filter_cons, List.filter_nil, decide_eq_false h]
  simp
/-- Numbers in a row of one's own. -/
def NumsOwn (w : World) (zs : List Int) (v : Value) (W : World) : Prop := W.ownsRow w.heap.size 21 1 v zs.length (zs.map (Value.int .i32)) ∧ Below w.heap.size w W
theorem NumsOwn.none (w : World) : NumsOwn w [] (.slice none 0 0) w := ⟨World.ownsRow_nil _ _ _ _, Below.refl _ _⟩
theorem NumsOwn.more {w W w4 : World} {zs zs' : List Int} {y : Int} {v v' : Value} {o : Obj} (h : NumsOwn w zs v W) (e : zs' = zs ++ [y]) (q : w4.ownsRow w.heap.size 21 1 v' (zs.length + 1) (zs.map (Value.int .i32) ++ [.int .i32 y])) (g : (W.alloc o).grownBy w4 v.ownBlock) : NumsOwn w zs' v' w4 := by
  subst e
  refine ⟨by simpa using q, (h.2.alloc h.2.size o).grown g (Nat.le_trans h.2.size (by simp)) (fun k e => (h.1.lt k e).1)⟩
theorem NumsOwn.told {w W : World} {zs : List Int} {v : Value} (h : NumsOwn w zs v W) : ToldR w zs (.returned v) W := by
  obtain ⟨ao, cap, rfl, h1, h2, h3⟩ := reads_own h.1
  exact ⟨ao, cap, rfl, h1, h2, h3, h.2⟩

set_option maxRecDepth 100000 in
set_option maxHeartbeats 8000000 in
theorem refLevel (w : World) (ao : Option Addr) (n cap : Nat) (l : List It) (lv : Int) (h : ItemsAt w ao n l) (hn : n ≤ 1000) :
    Calls Tryz.prog 38 #[.slice ao n cap, .int .i64 lv] w (ToldR w (lvlOf l lv)) := by
  obtain ⟨i0, hi, hz0, hz1, hz2⟩ := info_parts infoI32
  have HI := Lib.hid h
  have HL := Lib.hid h.1
  clear h
  go_enter Tryz.func38, Tryz.ntmps38
  go_wp2
  go_loopw [5, 6] (fun v i wr => ∃ k : Nat, k ≤ n ∧ i = .int .i64 k ∧ NumsOwn w (lvlOf (l.take k) lv) v wr) (fun _ i _ => n - (intOf i).toNat)
  case atStart => exact ⟨0, Nat.zero_le _, rfl, NumsOwn.none w⟩
  case round =>
    obtain ⟨k, hk, rfl, hN⟩ := hrel
    obtain ⟨a1, cp1, rfl⟩ := ownShape hN.1
    have HN := Lib.hid hN
    clear hN
    have k0 : (0 : Int) ≤ (k : Int) := by omega
    by_cases hlt : k < n
    · have hkl : k < l.length := by rw [HL.out]; exact hlt
      obtain ⟨b, off, rfl, hbl, hc⟩ := HI.out.2 (by omega)
      have c0 := (HN.out.2.cell (p := ⟨b, _, none⟩) hbl).trans (hc _ _ (flatI_at l k hkl).1)
      have c1 : wr.cell? ⟨b, off + k * 2 + 1, none⟩ = _ := (HN.out.2.cell (p := ⟨b, _, none⟩) hbl).trans (hc _ _ (flatI_at l k hkl).2)
      have HLk := Lib.hid (show (lvlOf (l.take k) lv).length ≤ 1000 from Nat.le_trans lvl_le (by rw [List.length_take]; omega))
      by_cases hin : 1 ≤ lv ∧ lv ≤ ((l.getD k ⟨0, 0⟩).h : Int)
      · have HE := Lib.hid (lvl_take_in hkl hin)
        obtain ⟨hin1, hin2⟩ := hin
        have HNb := Lib.hid HN.out.2
        have hbl2 := Nat.lt_of_lt_of_le hbl HN.out.2.size
        clear hc hkl hbl
        generalize (l.getD k ⟨0, 0⟩).v = y at *
        generalize ((l.getD k ⟨0, 0⟩).h : Int) = hh at *
        go_wp2_with (at_builtin; go_loud (refine wpList_append_own _ rfl _ _ 32 rfl w.heap.size 21 i0 _ 1 4 Tryz.underlying32 hi hz0 hz1 hz2 rfl (by decide) _ _ _ rfl (HN.out.1.alloc _) ⟨wr.heap.size, 0, none⟩ 1 1 [.int .i32 y] rfl rfl (cell_one_new _ _ _) (by simp [Value.oneCell']) (by have := HLk.out; simp only [maxLen]; omega) (by have := HLk.out; omega) (Nat.le_trans HNb.out.size (by simp)) ?_; intro v' w4 q4 g4 _; have H4 := Lib.hid (HN.out.more HE.out q4 g4); obtain ⟨a4, c4, rfl⟩ := ownShape q4; clear q4 g4))
        go_roundw
        case rel => exact ⟨k + 1, by omega, by go_num, H4.out⟩
        case measure => simp [intOf]; omega
      · have HE := Lib.hid (lvl_take_out hkl hin)
        have H4 := Lib.hid (show NumsOwn w (lvlOf (l.take (k + 1)) lv) (.slice a1 (lvlOf (l.take k) lv).length cp1) wr by rw [HE.out]; exact HN.out)
        clear hc hkl hbl
        generalize (lvlOf (l.take k) lv).length = nl at *
        generalize ((l.getD k ⟨0, 0⟩).h : Int) = hh at *
        by_cases h1 : 1 ≤ lv
        · have h2 : ¬ lv ≤ hh := fun e => hin ⟨h1, e⟩
          clear hin
          go_wp2
          go_roundw
          case rel => exact ⟨k + 1, by omega, by go_num, H4.out⟩
          case measure => simp [intOf]; omega
        · clear hin
          go_wp2
          go_roundw
          case rel => exact ⟨k + 1, by omega, by go_num, H4.out⟩
          case measure => simp [intOf]; omega
    · obtain rfl : n = k := by omega
      rw [show l.take n = l from List.take_of_length_le (by rw [HL.out]; exact Nat.le_refl _)] at HN ⊢
      have HQ := Lib.hid HN.out.told
      clear HN
      go_wp2
      go_ret
      exact HQ.out


end Go.Proofs.YtniefplgijpckaaGreat
