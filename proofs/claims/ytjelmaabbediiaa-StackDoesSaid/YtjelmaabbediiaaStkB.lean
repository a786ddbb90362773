/-
  What Items, Copy and Do of package stack do, at every stack and at nil. Conditions: a stack as Stk says.
-/
import Derived.Test.YtjelmaabbediiaaStk
namespace Go.Proofs.Ytjelmaabbediiaa
open Go.RowKit

theorem madeFacts {w w1 : World} {g n : Nat} {ao : Option Addr} {Z : List Value} (ho : w1.ownsRow w.heap.size 21 1 (.slice (some ⟨g, 0, none⟩) n n) n (madeCells (Value.int .i32 0).cells (n * 1)).toList) (hg : w.grownBy w1 none)
    (hs : 0 < Z.length → ∃ ad, ao = some ad ∧ ∀ j u, Z[j]? = some u → w.cell? (ad.add j) = some u) :
    w1.heap[g]? = some (.cells (List.replicate n (.int .i32 0)).toArray 21 (0, 0)) ∧ (0 < Z.length → ∃ ad, ao = some ad ∧ ∀ j u, Z[j]? = some u → w1.cell? (ad.add j) = some u) ∧ Below w.heap.size w w1 := by
  refine ⟨?_, ?_, (Below.refl _ _).grown hg (Nat.le_refl _) (by simp)⟩
  · have := rowWhole ho
    rw [show (Value.int .i32 0).cells = #[Value.int .i32 0] from rfl, Nat.mul_one, toList_madeCells_one] at this
    exact this
  · intro hp
    obtain ⟨ad, rfl, hc⟩ := hs hp
    exact ⟨ad, rfl, fun j u hu => hg.cell (hc j u hu) (by simp)⟩

/-- Numbers in new memory. -/
def Told (w : World) (zs : List Int) (e : Ending) (w' : World) : Prop :=
  e = .returned (.slice (some ⟨w.heap.size, 0, none⟩) zs.length zs.length) ∧ w'.ownsRow w.heap.size 21 1 (.slice (some ⟨w.heap.size, 0, none⟩) zs.length zs.length) zs.length (zs.map (Value.int .i32)) ∧ Below w.heap.size w w'

section
variable {w : World} {F : Nat → Prop} {p : Nat} {most : Int} {zs : List Int}

set_option maxHeartbeats 1600000 in
theorem itemsAny (h : Stk w F p most zs) :
    Calls Try.prog 18 #[.pointer (some ⟨p, 0, none⟩)] w (Told w zs) := by
  have hs' := h.len
  obtain ⟨v, m, _⟩ := h
  obtain ⟨ao, cap, hv, hr, hc1, _⟩ := reads_own m.own
  have hpl := m.lt
  have c1 := m.c1
  rw [hv] at c1
  obtain ⟨i0, hi, hz0, hz1, hz2⟩ := info_parts infoI32
  obtain ⟨Z, hZ⟩ : ∃ Z, Z = zs.map (Value.int .i32) := ⟨_, rfl⟩
  have hlen : Z.length = zs.length := by rw [hZ]; simp
  have hsrc : 0 < Z.length → ∃ ad, ao = some ad ∧ ∀ j u, Z[j]? = some u → w.cell? (ad.add j) = some u := by
    rw [hlen, hZ]; exact reads_src hr
  have h1c : ∀ u ∈ Z, u.oneCell' = true := by subst hZ; exact ints_oneCell _ _
  unfold Told
  rw [← hZ]
  have HI := Lib.hid hi
  have H0 := Lib.hid hz0
  have H1 := Lib.hid hz1
  have H2 := Lib.hid hz2
  have HL := Lib.hid hlen
  have HS := Lib.hid hsrc
  have HC := Lib.hid h1c
  clear hi hz0 hz1 hz2 hlen hsrc h1c hZ m hv hr
  go_enter Try.func18, Try.ntmps18
  go_wp2_with (first
    | (at_make; refine wpList_make_full _ rfl _ _ 28 rfl w.heap.size 21 i0 (.int .i32 0) 1 Try.underlying28 HI.out H0.out H1.out _ _ _ _ zs.length rfl rfl (by simp) (by simp) (by rw [H2.out]; omega) (by unfold maxLen; omega) (Nat.le_refl _) ?_; intro w1 ho hg; have c1' := hg.cell c1 (by simp); have HF := Lib.hid (madeFacts ho hg HS.out); clear ho hg)
    | (with_reducible refine wpList_copy_splice rfl (.tmp 12) (.tmp 16) 28 28 rfl 21 Try.underlying28 sizeI32 _ _ _ _ _ _ rfl rfl w.heap.size 0 (List.replicate zs.length (.int .i32 0)) 21 HF.out.1 Z (by rw [HL.out]; simp) (fun hp => ⟨rfl, HF.out.2.1 hp⟩) (by rw [HL.out]; simp) HC.out w.heap.size w HF.out.2.2 (Nat.le_refl _) ?_; intro w2 hg2 hb2))
  go_ret
  refine ⟨rfl, ?_, hb2⟩
  have hb := hg2.out
  refine rowOf (Nat.le_refl _) HL.out (by unfold maxLen; omega) ?_
  rw [hb]
  simp [splice, HL.out]

theorem itemsNil (w : World) :
    Calls Try.prog 18 #[.pointer none] w fun e w' => e = .returned (.slice none 0 0) ∧ w = w' := by
  go_enter Try.func18, Try.ntmps18
  go_wp2
  go_ret
  exact ⟨rfl, rfl⟩

/-- What Copy leaves: a stack in new memory. -/
def Copied (w : World) (most : Int) (zs : List Int) (e : Ending) (w' : World) : Prop :=
  ∃ q, e = .returned (.pointer (some ⟨q, 0, none⟩)) ∧ Stk w' (New w w') q most zs ∧ Below w.heap.size w w'

theorem copied_mk {w1 : World} {v : Value} (s0 : 0 ≤ most) (s1 : most ≤ 1000) (hr : (zs.length : Int) ≤ most) (ho : w1.ownsRow w.heap.size 21 1 v zs.length (zs.map (Value.int .i32))) (hb : Below w.heap.size w w1) :
    Copied w most zs (.returned (.pointer (some ⟨w1.heap.size, 0, none⟩))) (w1.alloc (.cells #[.int .i64 most, v] 54)) := by
  refine ⟨_, rfl, ⟨v, ⟨heap_alloc_new w1 _, ?_, s0, s1, hr⟩, ⟨hb.size, by simp⟩, fun g hg => ?_, fun g hg => hg.2⟩, hb.alloc hb.size _⟩
  · have h2 := ho.alloc (.cells #[.int .i64 most, v] 54)
    refine ⟨h2.1, ?_⟩
    rcases h2.2 with hn | ⟨g, cap, cur, e, _, r⟩
    · exact .inl hn
    · exact .inr ⟨g, cap, cur, e, Nat.zero_le _, r⟩
  · have := ho.lt g hg
    exact ⟨this.1, by simp; omega⟩

set_option maxHeartbeats 1600000 in
theorem copyAny (h : Stk w F p most zs) :
    Calls Try.prog 17 #[.pointer (some ⟨p, 0, none⟩)] w (Copied w most zs) := by
  have C := itemsAny h
  have M := mostAny h
  have s0 := h.s0
  have s1 := h.s1
  have hr := h.room
  clear h
  go_enter Try.func17, Try.ntmps17
  go_wp2_with (first | (go_at_call 20; refine M.mono ?_; rintro e w' ⟨rfl, rfl⟩) | (go_at_call 18; refine C.mono ?_; rintro e w1 ⟨rfl, ho, hb⟩; have HO := Lib.hid ho; have HB := Lib.hid hb; clear ho hb))
  go_ret
  exact copied_mk s0 s1 hr HO.out HB.out

theorem copyNil (w : World) :
    Calls Try.prog 17 #[.pointer none] w (Copied w 0 []) := by
  go_enter Try.func17, Try.ntmps17
  go_wp2_with (first | (go_at_call 20; refine (mostNil _).mono ?_; rintro e w' ⟨rfl, rfl⟩) | (go_at_call 18; refine (itemsNil _).mono ?_; rintro e w' ⟨rfl, rfl⟩))
  go_ret
  exact copied_mk (zs := []) (by omega) (by omega) (by simp) (World.ownsRow_nil _ _ _ _) (Below.refl _ _)

/-- What an operation makes of the items. -/
def stkL (most : Int) (zs : List Int) (k x : Int) : List Int :=
  if k = 1 then (if (zs.length : Int) < most then zs ++ [x] else zs) else if k = 2 then zs.dropLast else zs
/-- What it is told: a code. -/
def stkC (most : Int) (zs : List Int) (k : Int) : Int :=
  if k = 1 then (if (zs.length : Int) < most then 1 else 3) else if k = 2 then (if zs = [] then 4 else 2) else 5
/-- What it is told: a value. -/
def stkV (zs : List Int) (k : Int) : Int := if k = 2 then zs.getLastD 0 else 0

theorem refuseAny (q : Option Addr) (x : Int) (w : World) :
    Calls Try.prog 24 #[.pointer q, .int .i32 x] w fun e w' => e = .returned (.agg #[.int .u8 5, .int .i32 0]) ∧ Below w.heap.size w w' := by
  go_enter Try.func24, Try.ntmps24
  go_wp2
  exact bodyPost_ret (v := .agg #[.int .u8 5, .int .i32 0]) (by simp [results, Try.results24, go_sem]) rfl ⟨rfl, by exact (Below.refl _ _).alloc (Nat.le_refl _) _⟩
end

end Go.Proofs.Ytjelmaabbediiaa
