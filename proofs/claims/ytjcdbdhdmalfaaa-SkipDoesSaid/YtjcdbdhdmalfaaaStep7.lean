/-
  What step of SkipDoes does: the list and the document's stay alike, and what both tell agrees. Conditions: a list and the document's beside it; a deed whose lists lie in old memory, a thousand each at most.
-/
import Derived.Test.YtjcdbdhdmalfaaaRefBat7
import Derived.Test.YtjcdbdhdmalfaaaDeeds7
namespace Go.Proofs.Ytjcdbdhdmalfaaa
open Go.RowKit

/-- A deed in a box. -/
def DBox (W : World) (g : Nat) (x : Deed7) : Prop := W.heap[g]? = some (.cells #[.int .u8 x.k, .int .i32 x.v, .int .i64 x.h, .slice x.vo x.n x.cv, .slice x.ho x.m x.ch] 31)

theorem DBox.new (w : World) (x : Deed7) : DBox (w.alloc (.cells #[.int .u8 x.k, .int .i32 x.v, .int .i64 x.h, .slice x.vo x.n x.cv, .slice x.ho x.m x.ch] 31)) w.heap.size x := heap_alloc_new w _
theorem DBox.below {W W' : World} {g : Nat} {x : Deed7} (h : DBox W g x) (hb : Below W.heap.size W W') : DBox W' g x := (hb.block g (lt_of_block h)).trans h
theorem DBox.c0 {W : World} {g : Nat} {x : Deed7} (h : DBox W g x) : W.cell? ⟨g, 0, none⟩ = some (.int .u8 x.k) := by unfold DBox at h; simp [World.cell?, h]
theorem DBox.c1 {W : World} {g : Nat} {x : Deed7} (h : DBox W g x) : W.cell? ⟨g, 1, none⟩ = some (.int .i32 x.v) := by unfold DBox at h; simp [World.cell?, h]
theorem DBox.c2 {W : World} {g : Nat} {x : Deed7} (h : DBox W g x) : W.cell? ⟨g, 2, none⟩ = some (.int .i64 x.h) := by unfold DBox at h; simp [World.cell?, h]
theorem DBox.c3 {W : World} {g : Nat} {x : Deed7} (h : DBox W g x) : W.cell? ⟨g, 3, none⟩ = some (.slice x.vo x.n x.cv) := by unfold DBox at h; simp [World.cell?, h]
theorem DBox.c4 {W : World} {g : Nat} {x : Deed7} (h : DBox W g x) : W.cell? ⟨g, 4, none⟩ = some (.slice x.ho x.m x.ch) := by unfold DBox at h; simp [World.cell?, h]

/-- What a step leaves. -/
def StepPost (w0 : World) (p : Nat) (mo : Int) (e : Ending) (w' : World) : Prop :=
  ∃ F l ao cap, e = .returned (.tuple #[.slice ao l.length cap, .bool true]) ∧ Duo w0 F p mo l ao cap w'

/-- A deed that can be done. -/
structure Deed7.fine (W : World) (x : Deed7) : Prop where
  k : 0 ≤ x.k ∧ x.k ≤ 255
  vs : Reads .i32 W x.vo x.n x.vs
  cv : x.n ≤ x.cv
  hs : Reads .i64 W x.ho x.m x.hs
  n : x.n ≤ 1000
  m : x.m ≤ 1000

theorem itemsTail {W : World} {b off : Nat} {i : It} {l : List It} (h : ItemsAt W (some ⟨b, off, none⟩) (l.length + 1) (i :: l)) : ItemsAt W (some ⟨b, off + 2, none⟩) l.length l := by
  refine ⟨rfl, fun hp => ?_⟩
  obtain ⟨b', off', e, hb, hc⟩ := h.2 (by omega)
  simp only [Option.some.injEq, Addr.mk.injEq, and_true] at e
  obtain ⟨rfl, rfl⟩ := e
  refine ⟨b, off + 2, rfl, hb, fun j u hu => ?_⟩
  rw [show off + 2 + j = off + (j + 2) by omega]
  exact hc (j + 2) u (by rw [flatI_cons]; exact hu)

theorem drewBelow (W : World) (q : Nat) : Below W.heap.size W (W.drewN q) := ⟨rfl, rfl, rfl, Nat.le_refl _, fun _ _ => rfl⟩

set_option maxRecDepth 100000 in
set_option maxHeartbeats 16000000 in
theorem stepAny {w0 w : World} {F : Nat → Prop} {p : Nat} {l : List It} {ao : Option Addr} {cap : Nat} (most : Int) (h : Duo w0 F p (mostOf most) l ao cap w) (x : Deed7) (hx : x.fine w0) :
    Calls Try.prog 26 #[.pointer (some ⟨p, 0, none⟩), .int .i64 most, .slice ao l.length cap, .agg #[.int .u8 x.k, .int .i32 x.v, .int .i64 x.h, .slice x.vo x.n x.cv, .slice x.ho x.m x.ch]] w (StepPost w0 p (mostOf most)) := by
  have HX := Lib.hid hx
  have HD0 := Lib.hid h
  have HMo := Lib.hid (mostOf_in most)
  have hkk := hx.k
  clear h hx
  go_enter Try.func26, Try.ntmps26
  go_upto_region 1 with (fail)
  have HBx := Lib.hid (DBox.new w x)
  have HD := Lib.hid (HD0.out.fresh ((Below.refl w.heap.size w).alloc (Nat.le_refl _) (.cells #[.int .u8 x.k, .int .i32 x.v, .int .i64 x.h, .slice x.vo x.n x.cv, .slice x.ho x.m x.ch] 31)))
  clear HD0
  generalize w.alloc (.cells #[.int .u8 x.k, .int .i32 x.v, .int .i64 x.h, .slice x.vo x.n x.cv, .slice x.ho x.m x.ch] 31) = W at *
  have c0 := HBx.out.c0
  have HLn := Lib.hid (show l.length ≤ 1000 ∧ (l.length : Int) ≤ mostOf most by have h1 := HD.out.at_.1.len; have := HMo.out; omega)
  rcases (show x.k % 4 = 0 ∨ x.k % 4 = 1 ∨ x.k % 4 = 2 ∨ x.k % 4 = 3 by omega) with hk4 | hk4 | hk4 | hk4
  · have HK4 := Lib.hid hk4
    clear hk4
    go_upto_region 2 with (fail)
    rw [HK4.out]
    clear HK4 hkk c0
    have c1 := HBx.out.c1
    have c2 := HBx.out.c2
    have C := refInsert W most ao _ cap l x.v x.h HD.out.it HLn.out.1 HD.out.cap
    go_wp2_with fail
    refine C.mono ?_
    clear C
    rintro e w2 ⟨ao2, cap2, rfl, it2, hc2, ho2, bl2⟩
    have HH := Lib.hid (HD.out.half bl2 it2 hc2 ho2)
    have HB2 := Lib.hid (HBx.out.below bl2)
    clear it2 hc2 ho2 bl2 c1 c2 HD HBx
    have c1 := HB2.out.c1
    have c2 := HB2.out.c2
    have C := insertAny HH.out.at_.1 x.v x.h
    generalize insL (mostOf most) l ⟨x.v, hOf x.h⟩ = l2 at *
    generalize decide ((l.length : Int) < mostOf most) = tk at *
    go_wp2_with fail
    refine C.mono ?_
    clear C
    rintro e w3 ⟨rfl, d3⟩
    obtain ⟨F3, u3, _, _⟩ := HH.out.whole d3
    have HU := Lib.hid u3
    have hbb : (tk == tk) = true := by simp
    clear d3 u3 HH HB2 c1 c2
    go_wp2
    go_ret2
    exact ⟨F3, _, _, _, rfl, HU.out⟩
  · have HK4 := Lib.hid hk4
    clear hk4
    go_upto_region 2 with (fail)
    rw [HK4.out]
    clear HK4 hkk c0
    have c3 := HBx.out.c3
    have c4 := HBx.out.c4
    have hbW := HD.out.at_.2.1
    have C := refBatch W most ao _ cap l x.vo x.ho x.n x.cv x.m x.ch x.vs x.hs HD.out.it HLn.out.2 HD.out.cap (HX.out.vs.keep hbW) (HX.out.hs.keep hbW) HX.out.n HX.out.m
    clear hbW
    unfold BatPost at C
    have HC2 : Hid (∀ W2 : World, ∀ _ : Skip W2 F p (mostOf most) l, ∀ _ : Below w0.heap.size w0 W2, Calls Try.prog 17 #[.pointer (some ⟨p, 0, none⟩), .slice x.vo x.n x.cv, .slice x.ho x.m x.ch] W2 fun e w' => ∃ g, W2.heap.size ≤ g ∧ e = .returned (.slice (some ⟨g, 0, none⟩) x.n x.n) ∧ w'.heap[g]? = some (.cells ((toldB (roomOf (mostOf most) l x.vs) x.n).map Value.bool).toArray 4 (0, 0)) ∧ Did F p (mostOf most) (insMany l x.vs x.hs (roomOf (mostOf most) l x.vs)) W2 w') := Lib.hid fun W2 hs hb => by
      have := batchAnyIf hs x.vo x.ho x.n x.cv x.m x.ch x.vs x.hs (HX.out.vs.keep hb) (HX.out.hs.keep hb) (HD.out.at_.old HX.out.vs.lt) (HD.out.at_.old HX.out.hs.lt) (by have := HX.out.n; omega) HX.out.cv
      unfold BatchPost at this
      rw [HX.out.vs.1] at this
      exact this
    have hRn : roomOf (mostOf most) l x.vs ≤ x.n := by unfold roomOf; have := HX.out.vs.1; split <;> omega
    have hn1 := HX.out.n
    generalize insMany l x.vs x.hs (roomOf (mostOf most) l x.vs) = L at *
    generalize roomOf (mostOf most) l x.vs = R at *
    go_wp2_with fail
    refine C.mono ?_
    clear C
    rintro e w2 ⟨ao2, cap2, g2, rfl, it2, hc2, ho2, hg2, row2, bl2⟩
    have HH := Lib.hid (HD.out.half bl2 it2 hc2 ho2)
    have HB2 := Lib.hid (HBx.out.below bl2)
    have HRow := Lib.hid (And.intro row2 (show ¬ F g2 from fun e => by have := HD.out.at_.lt _ e; omega))
    clear it2 hc2 ho2 bl2 row2 c3 c4 HD HBx
    have c3 := HB2.out.c3
    have c4 := HB2.out.c4
    have C := HC2.out w2 HH.out.at_.1 HH.out.at_.2.1
    clear HC2
    go_wp2_with fail
    refine C.mono ?_
    clear C
    rintro e w3 ⟨g3, hg3, rfl, row3, d3⟩
    obtain ⟨F3, u3, wr3, _⟩ := HH.out.whole d3
    have HU := Lib.hid u3
    have HRw := Lib.hid (And.intro ((wr3.block g2 (lt_of_block HRow.out.1) HRow.out.2).trans HRow.out.1) row3)
    clear d3 u3 wr3 row3 HRow HH HB2 c3 c4
    generalize x.n = n at *
    go_wp2
    go_loopw [15, 16] (fun s i wr => ∃ k : Nat, k ≤ n ∧ i = .int .i64 k ∧ s = .bool true ∧ Below w3.heap.size w3 wr) (fun _ i _ => n - (intOf i).toNat)
    case atStart => exact ⟨0, Nat.zero_le _, rfl, by first | rfl | simp, Below.refl _ _⟩
    case round =>
      obtain ⟨k, hk, rfl, rfl, hb⟩ := hrel
      have HB := Lib.hid hb
      clear hb
      have k0 : (0 : Int) ≤ (k : Int) := by omega
      by_cases hlt : k < n
      · have cg2 : wr.cell? ⟨g2, k, none⟩ = some (.bool (decide (k < R))) := by
          have h1 := toldB_at (r := R) hlt
          have h2 := (HB.out.block g2 (lt_of_block HRw.out.1)).trans HRw.out.1
          simp [World.cell?, h2, h1]
        have cg3 : wr.cell? ⟨g3, k, none⟩ = some (.bool (decide (k < R))) := by
          have h1 := toldB_at (r := R) hlt
          have h2 := (HB.out.block g3 (lt_of_block HRw.out.2)).trans HRw.out.2
          simp [World.cell?, h2, h1]
        generalize decide (k < R) = tk at *
        have hbb : (tk == tk) = true := by simp
        have kl : (k : Int) < n := by omega
        go_wp2
        go_quiet (fail)
        go_wp2
        go_roundw
        case rel => exact ⟨k + 1, by omega, by go_num, by first | rfl | simp, below_drewN HB.out _⟩
        case measure => simp [intOf]; omega
      · have kl : ¬ (k : Int) < n := by omega
        go_wp2
        go_ret2
        exact ⟨F3, L, ao2, cap2, rfl, HU.out.fresh HB.out⟩
  · have HK4 := Lib.hid hk4
    clear hk4
    go_upto_region 2 with (fail)
    rw [HK4.out]
    clear HK4 hkk c0 HBx HX
    cases l with
    | nil =>
      have C := minNone HD.out.at_.1
      go_wp2_with fail
      refine C.mono ?_
      clear C
      rintro e w2 ⟨rfl, rfl⟩
      go_wp2
      go_ret2
      exact ⟨F, [], ao, cap, rfl, HD.out⟩
    | cons i rest =>
      have C := minOk i HD.out.at_.1
      obtain ⟨b, off, rfl, hbl, hc⟩ := HD.out.it.2 (by simp)
      have c0 : W.cell? ⟨b, off, none⟩ = some (.int .i32 i.v) := hc 0 _ rfl
      have hcap := HD.out.cap
      rw [List.length_cons] at hcap
      have HT := Lib.hid (itemsTail (by have := HD.out.it; rwa [List.length_cons] at this))
      have HF := Lib.hid (HD.out.off (by simp) _ rfl)
      have HA := Lib.hid HD.out.at_
      clear hc HD HLn
      have hlr : (i :: rest).length = rest.length + 1 := rfl
      rw [hlr]
      clear hlr
      by_cases hc1 : cap = 1
      · subst hc1
        have hr : rest = [] := List.eq_nil_of_length_eq_zero (by omega)
        subst hr
        generalize i.v = y at *
        go_wp2_with fail
        refine C.mono ?_
        clear C
        rintro e w2 ⟨rfl, d2⟩
        obtain ⟨F2, a2, wr2, _⟩ := HA.out.next d2
        have HA2 := Lib.hid a2
        have cw : w2.cell? ⟨b, off, none⟩ = some (.int .i32 y) := (wr2.cell (p := ⟨b, off, none⟩) hbl HF.out).trans c0
        clear d2 a2 wr2 HA c0
        have hyy : (y == y) = true := by simp
        go_wp2
        go_quiet (fail)
        go_wp2
        go_ret2
        exact ⟨F2, [], _, _, rfl, HA2.out.fresh (drewBelow _ _), ItemsAt.nil _ _, Nat.zero_le _, fun h => absurd h (by simp)⟩
      · generalize i.v = y at *
        have cp1 : 1 ≤ cap := by omega
        have cp2 : (1 : Int) ≤ cap := by omega
        have HF2 := Lib.hid (show Half w0 F p (mostOf most) (i :: rest) rest (some ⟨b, off + 2, none⟩) (cap - 1) W from ⟨HA.out, HT.out, by omega, fun _ a e => by
          injection e with e
          subst e
          exact HF.out⟩)
        clear HA HT
        go_wp2_with fail
        refine C.mono ?_
        clear C
        rintro e w2 ⟨rfl, d2⟩
        obtain ⟨F2, u2, wr2, _⟩ := HF2.out.whole d2
        have HU := Lib.hid u2
        have cw : w2.cell? ⟨b, off, none⟩ = some (.int .i32 y) := (wr2.cell (p := ⟨b, off, none⟩) hbl HF.out).trans c0
        clear d2 u2 wr2 HF2 c0
        have hyy : (y == y) = true := by simp
        generalize hrl : rest.length = rl at *
        go_wp2
        go_quiet (fail)
        go_wp2
        go_ret2
        exact ⟨F2, rest, _, _, by rw [hrl]; rfl, HU.out.fresh (drewBelow _ _)⟩
  · have HK4 := Lib.hid hk4
    clear hk4
    go_upto_region 2 with (fail)
    rw [HK4.out]
    clear HK4 hkk c0 HBx HX
    generalize hll : l.length = ll at *
    go_wp2
    go_ret2
    exact ⟨F, l, ao, cap, by rw [hll]; rfl, HD.out⟩

end Go.Proofs.Ytjcdbdhdmalfaaa
