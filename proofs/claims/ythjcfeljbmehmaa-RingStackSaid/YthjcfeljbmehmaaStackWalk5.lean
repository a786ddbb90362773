/-
  The walk of RingStack: for all numbers and bytes, at either end, it answers true and leaves all old memory as it was.
-/
import Derived.Test.YthjcfeljbmehmaaTurnsWalk
import Derived.Test.YthjcfeljbmehmaaRef04R
namespace Go.Proofs.Ythjcfeljbmehmaa
open Go.RowKit

/-- A stack's items as a deque has them, from left to right. -/
def seen (right : Bool) (zs : List Int) : List Int := match right with | true => zs | false => zs.reverse
theorem seen_len (right : Bool) (zs : List Int) : (seen right zs).length = zs.length := by cases right <;> simp [seen]

theorem left1 (n : Int) (zs : List Int) (x : Int) : dqL n (seen false zs) 1 x = seen false (stkL n zs 1 x) ∧ dqC n (seen false zs) 1 = stkC n zs 1 ∧ dqV (seen false zs) 1 = stkV zs 1 := by
  by_cases h : (zs.length : Int) < n <;> simp [dqL, stkL, dqC, stkC, dqV, stkV, seen, h]
theorem right1 (n : Int) (zs : List Int) (x : Int) : dqL n (seen true zs) 2 x = seen true (stkL n zs 1 x) ∧ dqC n (seen true zs) 2 = stkC n zs 1 ∧ dqV (seen true zs) 2 = stkV zs 1 := by
  by_cases h : (zs.length : Int) < n <;> simp [dqL, stkL, dqC, stkC, dqV, stkV, seen, h]
theorem left2 (n : Int) (zs : List Int) (x : Int) : dqL n (seen false zs) 3 x = seen false (stkL n zs 2 x) ∧ dqC n (seen false zs) 3 = stkC n zs 2 ∧ dqV (seen false zs) 3 = stkV zs 2 := by
  by_cases h : zs = []
  · subst h; simp [dqL, stkL, dqC, stkC, dqV, stkV, seen]
  · refine ⟨by simp [dqL, stkL, seen], by simp [dqC, stkC, seen, h], ?_⟩
    obtain ⟨ys, y, rfl⟩ := (List.eq_nil_or_concat zs).resolve_left h
    simp [dqV, stkV, seen]
theorem right2 (n : Int) (zs : List Int) (x : Int) : dqL n (seen true zs) 4 x = seen true (stkL n zs 2 x) ∧ dqC n (seen true zs) 4 = stkC n zs 2 ∧ dqV (seen true zs) 4 = stkV zs 2 := by
  by_cases h : zs = [] <;> simp [dqL, stkL, dqC, stkC, dqV, stkV, seen, h]

/-- An operation in a block of its own. -/
def OBox (w : World) (g : Nat) (k x : Int) : Prop := w.heap[g]? = some (.cells #[.int .u8 k, .int .i32 x] 34 (0, 0))
section
variable {w a b : World} {F : Nat → Prop} {g : Nat} {k x : Int}
theorem OBox.c0 (h : OBox w g k x) : w.cell? ⟨g, 0, none⟩ = some (.int .u8 k) := by unfold OBox at h; simp [World.cell?, h]
theorem OBox.c1 (h : OBox w g k x) : w.cell? ⟨g, 1, none⟩ = some (.int .i32 x) := by unfold OBox at h; simp [World.cell?, h]
theorem OBox.lt (h : OBox w g k x) : g < w.heap.size := lt_of_block h
theorem OBox.keep (h : OBox a g k x) (hb : Below a.heap.size a b) : OBox b g k x := (hb.block g h.lt).trans h
theorem OBox.off (h : OBox a g k x) (hn : ¬ F g) (hw : Wrote F a b) : OBox b g k x := (hw.block g h.lt hn).trans h
theorem OBox.new (w : World) (k x : Int) : OBox (w.alloc (.cells #[.int .u8 k, .int .i32 x] 34)) w.heap.size k x := heap_alloc_new w _
end

theorem opsL_two (xs : List Int) : ∀ o ∈ opsL 2 xs, o.1 = 1 ∨ o.1 = 2 := by
  intro o ho
  simp only [opsL, List.mem_map] at ho
  obtain ⟨x, _, rfl⟩ := ho
  simp only [opOf]
  omega

theorem beside_next {a b : World} {F : Nat → Prop} {ao ao' : Option Addr} {n : Nat} {zs zs' : List Int} (hF : ∀ g, F g → g < a.heap.size) (h : Beside F a ao n zs) (hr : Reads .i32 b ao' zs'.length zs') (hor : ao' = ao ∨ ∀ x, ao' = some x → a.heap.size ≤ x.block ∧ x.block < b.heap.size) (hb : Below a.heap.size a b) : Beside F b ao' zs'.length zs' := by
  rcases hor with e | e
  · subst e
    exact ⟨hr, h.2.1, fun x hx => Nat.lt_of_lt_of_le (h.2.2 x hx) hb.size⟩
  · exact ⟨hr, fun x hx hg => by have := hF _ hg; have := (e x hx).1; omega, fun x hx => (e x hx).2⟩

/-- What holds at each round's head: a deque that is what the list is, and operations beside it. -/
def StackRel (w a : World) (F : Nat → Prop) (q : Nat) (m : Int) (len : Nat) (right : Bool) (l i : Value) (wr : World) : Prop :=
  ∃ (k : Nat) (F' : Nat → Prop) (zs : List Int) (al : Option Addr) (cl : Nat), k ≤ len ∧ i = .int .i64 k ∧ l = .slice al zs.length cl ∧ zs.length ≤ cl ∧ At w F' q m (seen right zs) wr ∧ Beside F' wr al zs.length zs ∧ Wrote F a wr ∧ Later F F' a

set_option maxRecDepth 100000 in
set_option maxHeartbeats 16000000 in
theorem stackRight {w : World} (most : Int) (ao : Option Addr) (len cap : Nat) (xs : List Int) (m0 : 0 ≤ most) (m1 : most ≤ 255) (hx : ArgBytes w ao len cap xs) (hlen : len ≤ 140737488351232) :
    Calls Try.prog 7 #[.int .u8 most, .slice ao len cap, .bool true] w fun e w' => e = .returned (.bool true) ∧ Below w.heap.size w w' := by
  have hq := eqSelf
  have HX := Lib.hid hx.1
  have HY := Lib.hid hx.2.2.2
  clear hx
  obtain ⟨m, hm⟩ : ∃ m, mostOf (most % 9) = m := ⟨_, rfl⟩
  have CN := newAny (most % 9) w
  rw [hm] at CN
  have HM := Lib.hid hm
  clear hm
  go_enter Try.func7, Try.ntmps7
  go_wp2_with fail
  refine CN.mono ?_
  clear CN
  rintro e w1 ⟨q, rfl, s1, b1⟩
  have HA1 := Lib.hid (At.new s1 b1)
  clear s1 b1
  have C := opsAny w1 ao len cap xs 2 (HX.out.keep HA1.out.2.1) HY.out (by omega) (by omega) (by omega)
  go_wp2_with fail
  refine C.mono ?_
  clear C
  rintro e a ⟨oo, oc, rfl, o2, of2, b2⟩
  have HA2 := Lib.hid (HA1.out.fresh b2)
  have HO := Lib.hid o2
  have HOF := Lib.hid (off_new HA1.out.lt of2)
  have HK := Lib.hid (opsL_two xs)
  clear o2 of2 b2 HA1 HX HY
  generalize New w w1 = F at *
  have HO8 := opsL_len 2 xs
  generalize opsL 2 xs = os at *
  obtain ⟨ol, hol⟩ : ∃ ol, os.length = ol := ⟨_, rfl⟩
  rw [hol] at HO ⊢
  have HOL := Lib.hid hol
  have h80 : ol ≤ 80 := by rw [← hol]; exact HO8
  clear hol
  have HS := Lib.hid (show StackRel w a F q m ol true (.slice none 0 0) (.int .i64 0) a from ⟨0, F, [], none, 0, Nat.zero_le _, rfl, rfl, Nat.le_refl _, HA2.out, ⟨⟨rfl, fun h => by simp at h⟩, fun _ h => by simp at h, fun _ h => by simp at h⟩, Wrote.refl _ _, Later.refl _ _⟩)
  clear HA2
  go_wp2
  go_loopw [9, 10] (fun l i wr => StackRel w a F q m ol true l i wr) (fun _ i _ => ol - (intOf i).toNat)
  case atStart => exact HS.out
  case round =>
    obtain ⟨k, F', zs, al, cl, hk, rfl, rfl, hcl, ha, hbe, hw, hl⟩ := hrel
    have HZL := Lib.hid (show zs.length ≤ 1000 by have := ha.1.len; rwa [seen_len] at this)
    have HA := Lib.hid ha
    have HBe := Lib.hid hbe
    have HW := Lib.hid hw
    have HL := Lib.hid hl
    clear HS ha hbe hw hl
    by_cases hlt : k < ol
    · have hkl : k < os.length := by rw [HOL.out]; exact hlt
      obtain ⟨bb, off, rfl, bl, hc⟩ := (HO.out.off HOF.out HW.out).2 (by omega)
      obtain ⟨y0, y1⟩ := hc k hlt
      have ho : (os.getD k (0, 0)).1 = 1 ∨ (os.getD k (0, 0)).1 = 2 := by simpa [List.getD, hkl] using HK.out os[k] (List.getElem_mem hkl)
      have i0 : (k : Int) < ol := by omega
      clear hc hkl
      generalize (os.getD k (0, 0)).1 = o1 at *
      generalize (os.getD k (0, 0)).2 = o2 at *
      rcases ho with rfl | rfl
      · skip
        have E := right1 m zs o2
        have RD := fun (W : World) (hr : Reads .i32 W al zs.length zs) => refDo (most % 9) 1 o2 hr hcl HZL.out
        rw [HM.out, ← E.2.1, ← E.2.2] at RD
        have HD := Lib.hid (fun (W : World) (F : Nat → Prop) (h : Rng W F q m (seen true zs)) => by have := doAny h 2 o2; rwa [E.1] at this)
        clear E
        generalize stkL m zs 1 o2 = zs2 at *
        generalize dqC m (seen true zs) 2 = rc at *
        generalize dqV (seen true zs) 2 = rv at *
        go_wp2
        have z0 : wr.drew.cell? ⟨bb, off + k * 2, none⟩ = some (.int .u8 1) := y0
        have z1 : wr.drew.cell? ⟨bb, off + k * 2 + 1, none⟩ = some (.int .i32 o2) := y1
        go_region_held3 (fun w' => w'.cell? ⟨bb, off + k * 2, none⟩ = some (.int .u8 1) ∧ w'.cell? ⟨bb, off + k * 2 + 1, none⟩ = some (.int .i32 o2)) (first | exact ⟨y0, y1⟩ | exact ⟨z0, z1⟩ | (refine ⟨?_, ?_⟩ <;> go_simp)) (fail)
        go_upto_region 12 with (fail)

        generalize hW : (wr.alloc (.cells #[.int .u8 2, .int .i32 o2] 34)).drew = W
        have hb3 : Below wr.heap.size wr W := by subst hW; exact ((Below.refl _ _).alloc (Nat.le_refl _) _).drew
        have HX3 := Lib.hid (show OBox W wr.heap.size 2 o2 by subst hW; exact OBox.new _ _ _)
        have HG3 := Lib.hid (show ¬ F' wr.heap.size from fun e => by have := HA.out.lt _ e; omega)
        have HA3 := Lib.hid (HA.out.fresh hb3)
        have HBe3 := Lib.hid (HBe.out.keep hb3)
        have HW3 := Lib.hid (HW.out.trans (Wrote.of hb3 F))
        have HO3 := Lib.hid (And.intro ((hb3.cell (p := ⟨bb, off + k * 2, none⟩) bl).trans y0) ((hb3.cell (p := ⟨bb, off + k * 2 + 1, none⟩) bl).trans y1))
        have bl3 : bb < W.heap.size := Nat.lt_of_lt_of_le bl hb3.size
        obtain ⟨v0, v1⟩ := HO3.out
        have C := RD W HBe3.out.1
        clear hW hb3 z0 z1 y0 y1 RD HA HBe HW
        go_wp2_with fail
        refine C.mono ?_
        clear C
        rintro e w4 ⟨an, cn, rfl, r4, hc4, hor, b4⟩
        have HBe4 := Lib.hid (beside_next HA3.out.lt HBe3.out r4 hor b4)
        have HA4 := Lib.hid (HA3.out.fresh b4)
        have HX4 := Lib.hid (HX3.out.keep b4)
        have HW4 := Lib.hid (HW3.out.trans (Wrote.of b4 F))
        have HZ4 := Lib.hid (show wr.heap.size < w4.heap.size from Nat.lt_of_lt_of_le HX3.out.lt b4.size)
        clear r4 hor b4 HA3 HBe3 HX3 HW3 HO3 v0 v1 bl3
        generalize wr.heap.size = g at *
        go_upto_region 13 with (fail)
        generalize hW : w4.alloc (.cells #[.int .u8 rc, .int .i32 rv] 31) = W5
        have hb5 : Below w4.heap.size w4 W5 := by subst hW; exact (Below.refl _ _).alloc (Nat.le_refl _) _
        have HR5 := Lib.hid (show RBox W5 w4.heap.size rc rv by subst hW; exact RBox.new _ _ _)
        have HG5 := Lib.hid (show ¬ F' w4.heap.size from fun e => by have := HA4.out.lt _ e; omega)
        have HA5 := Lib.hid (HA4.out.fresh hb5)
        have HBe5 := Lib.hid (HBe4.out.keep hb5)
        have HX5 := Lib.hid (HX4.out.keep hb5)
        have HW5 := Lib.hid (HW4.out.trans (Wrote.of hb5 F))
        clear hW hb5 HA4 HBe4 HX4 HW4 HZ4
        generalize w4.heap.size = g2 at *
        have g0 := HX5.out.c0
        have g1 := HX5.out.c1
        have g2c := HR5.out.c0
        have g3c := HR5.out.c1
        have CD := HD.out W5.drew F' HA5.out.drew.1
        clear HD
        go_region_held3 (fun w' => w'.cell? ⟨g, 0, none⟩ = some (.int .u8 2) ∧ w'.cell? ⟨g, 1, none⟩ = some (.int .i32 o2) ∧ w'.cell? ⟨g2, 0, none⟩ = some (.int .u8 rc) ∧ w'.cell? ⟨g2, 1, none⟩ = some (.int .i32 rv)) (first | exact ⟨g0, g1, g2c, g3c⟩ | exact ⟨h0, h1, h2, h3⟩) (first | (go_at_call 14; refine CD.mono ?_; rintro e w6 ⟨rfl, d6⟩; obtain ⟨F6, a6, wr6, l6⟩ := HA5.out.drew.next d6; have x6 := (show OBox W5.drew g 2 o2 from HX5.out).off HG3.out wr6; have r6 := (show RBox W5.drew g2 rc rv from HR5.out).off HG5.out wr6; have h0 := x6.c0; have h1 := x6.c1; have h2 := r6.c0; have h3 := r6.c1; have H6 := Lib.hid (show StackRel w a F q m ol true (.slice an zs2.length cn) (.int .i64 ((k : Int) + 1)) w6 from ⟨k + 1, F6, zs2, an, cn, by omega, by go_num, rfl, hc4, a6, (HBe5.out.keep (Below.refl _ W5).drew).off wr6 l6, HW5.out.drew.step HL.out wr6, HL.out.trans l6 HW5.out.size⟩); clear d6 a6 wr6 l6 x6 r6))
        all_goals go_wp2
        go_roundw
        case rel => exact H6.out
        case measure => simp [intOf]; omega
      · skip
        have E := right2 m zs o2
        have RD := fun (W : World) (hr : Reads .i32 W al zs.length zs) => refDo (most % 9) 2 o2 hr hcl HZL.out
        rw [HM.out, ← E.2.1, ← E.2.2] at RD
        have HD := Lib.hid (fun (W : World) (F : Nat → Prop) (h : Rng W F q m (seen true zs)) => by have := doAny h 4 o2; rwa [E.1] at this)
        clear E
        generalize stkL m zs 2 o2 = zs2 at *
        generalize dqC m (seen true zs) 4 = rc at *
        generalize dqV (seen true zs) 4 = rv at *
        go_wp2
        have z0 : wr.drew.cell? ⟨bb, off + k * 2, none⟩ = some (.int .u8 2) := y0
        have z1 : wr.drew.cell? ⟨bb, off + k * 2 + 1, none⟩ = some (.int .i32 o2) := y1
        go_region_held3 (fun w' => w'.cell? ⟨bb, off + k * 2, none⟩ = some (.int .u8 2) ∧ w'.cell? ⟨bb, off + k * 2 + 1, none⟩ = some (.int .i32 o2)) (first | exact ⟨y0, y1⟩ | exact ⟨z0, z1⟩ | (refine ⟨?_, ?_⟩ <;> go_simp)) (fail)
        go_upto_region 12 with (fail)

        generalize hW : (wr.alloc (.cells #[.int .u8 4, .int .i32 o2] 34)).drew = W
        have hb3 : Below wr.heap.size wr W := by subst hW; exact ((Below.refl _ _).alloc (Nat.le_refl _) _).drew
        have HX3 := Lib.hid (show OBox W wr.heap.size 4 o2 by subst hW; exact OBox.new _ _ _)
        have HG3 := Lib.hid (show ¬ F' wr.heap.size from fun e => by have := HA.out.lt _ e; omega)
        have HA3 := Lib.hid (HA.out.fresh hb3)
        have HBe3 := Lib.hid (HBe.out.keep hb3)
        have HW3 := Lib.hid (HW.out.trans (Wrote.of hb3 F))
        have HO3 := Lib.hid (And.intro ((hb3.cell (p := ⟨bb, off + k * 2, none⟩) bl).trans y0) ((hb3.cell (p := ⟨bb, off + k * 2 + 1, none⟩) bl).trans y1))
        have bl3 : bb < W.heap.size := Nat.lt_of_lt_of_le bl hb3.size
        obtain ⟨v0, v1⟩ := HO3.out
        have C := RD W HBe3.out.1
        clear hW hb3 z0 z1 y0 y1 RD HA HBe HW
        go_wp2_with fail
        refine C.mono ?_
        clear C
        rintro e w4 ⟨an, cn, rfl, r4, hc4, hor, b4⟩
        have HBe4 := Lib.hid (beside_next HA3.out.lt HBe3.out r4 hor b4)
        have HA4 := Lib.hid (HA3.out.fresh b4)
        have HX4 := Lib.hid (HX3.out.keep b4)
        have HW4 := Lib.hid (HW3.out.trans (Wrote.of b4 F))
        have HZ4 := Lib.hid (show wr.heap.size < w4.heap.size from Nat.lt_of_lt_of_le HX3.out.lt b4.size)
        clear r4 hor b4 HA3 HBe3 HX3 HW3 HO3 v0 v1 bl3
        generalize wr.heap.size = g at *
        go_upto_region 13 with (fail)
        generalize hW : w4.alloc (.cells #[.int .u8 rc, .int .i32 rv] 31) = W5
        have hb5 : Below w4.heap.size w4 W5 := by subst hW; exact (Below.refl _ _).alloc (Nat.le_refl _) _
        have HR5 := Lib.hid (show RBox W5 w4.heap.size rc rv by subst hW; exact RBox.new _ _ _)
        have HG5 := Lib.hid (show ¬ F' w4.heap.size from fun e => by have := HA4.out.lt _ e; omega)
        have HA5 := Lib.hid (HA4.out.fresh hb5)
        have HBe5 := Lib.hid (HBe4.out.keep hb5)
        have HX5 := Lib.hid (HX4.out.keep hb5)
        have HW5 := Lib.hid (HW4.out.trans (Wrote.of hb5 F))
        clear hW hb5 HA4 HBe4 HX4 HW4 HZ4
        generalize w4.heap.size = g2 at *
        have g0 := HX5.out.c0
        have g1 := HX5.out.c1
        have g2c := HR5.out.c0
        have g3c := HR5.out.c1
        have CD := HD.out W5.drew F' HA5.out.drew.1
        clear HD
        go_region_held3 (fun w' => w'.cell? ⟨g, 0, none⟩ = some (.int .u8 4) ∧ w'.cell? ⟨g, 1, none⟩ = some (.int .i32 o2) ∧ w'.cell? ⟨g2, 0, none⟩ = some (.int .u8 rc) ∧ w'.cell? ⟨g2, 1, none⟩ = some (.int .i32 rv)) (first | exact ⟨g0, g1, g2c, g3c⟩ | exact ⟨h0, h1, h2, h3⟩) (first | (go_at_call 14; refine CD.mono ?_; rintro e w6 ⟨rfl, d6⟩; obtain ⟨F6, a6, wr6, l6⟩ := HA5.out.drew.next d6; have x6 := (show OBox W5.drew g 4 o2 from HX5.out).off HG3.out wr6; have r6 := (show RBox W5.drew g2 rc rv from HR5.out).off HG5.out wr6; have h0 := x6.c0; have h1 := x6.c1; have h2 := r6.c0; have h3 := r6.c1; have H6 := Lib.hid (show StackRel w a F q m ol true (.slice an zs2.length cn) (.int .i64 ((k : Int) + 1)) w6 from ⟨k + 1, F6, zs2, an, cn, by omega, by go_num, rfl, hc4, a6, (HBe5.out.keep (Below.refl _ W5).drew).off wr6 l6, HW5.out.drew.step HL.out wr6, HL.out.trans l6 HW5.out.size⟩); clear d6 a6 wr6 l6 x6 r6))
        all_goals go_wp2
        go_roundw
        case rel => exact H6.out
        case measure => simp [intOf]; omega
    · obtain rfl : k = ol := by omega
      clear HO HK HM HOF HW HL
      go_wp2_with fail
      refine (known _).mono ?_
      rintro e w7 ⟨rfl, b7⟩
      have HA7 := Lib.hid (HA.out.fresh b7)
      have C := lenAny HA7.out.1
      rw [seen_len] at C
      clear b7 HA HBe
      go_wp2_with fail
      refine C.mono ?_
      clear C
      rintro e w' ⟨rfl, rfl⟩
      go_wp2
      go_ret
      exact ⟨rfl, HA7.out.2.1⟩

set_option maxRecDepth 100000 in
set_option maxHeartbeats 16000000 in
theorem stackLeft {w : World} (most : Int) (ao : Option Addr) (len cap : Nat) (xs : List Int) (m0 : 0 ≤ most) (m1 : most ≤ 255) (hx : ArgBytes w ao len cap xs) (hlen : len ≤ 140737488351232) :
    Calls Try.prog 7 #[.int .u8 most, .slice ao len cap, .bool false] w fun e w' => e = .returned (.bool true) ∧ Below w.heap.size w w' := by
  have hq := eqSelf
  have HX := Lib.hid hx.1
  have HY := Lib.hid hx.2.2.2
  clear hx
  obtain ⟨m, hm⟩ : ∃ m, mostOf (most % 9) = m := ⟨_, rfl⟩
  have CN := newAny (most % 9) w
  rw [hm] at CN
  have HM := Lib.hid hm
  clear hm
  go_enter Try.func7, Try.ntmps7
  go_wp2_with fail
  refine CN.mono ?_
  clear CN
  rintro e w1 ⟨q, rfl, s1, b1⟩
  have HA1 := Lib.hid (At.new s1 b1)
  clear s1 b1
  have C := opsAny w1 ao len cap xs 2 (HX.out.keep HA1.out.2.1) HY.out (by omega) (by omega) (by omega)
  go_wp2_with fail
  refine C.mono ?_
  clear C
  rintro e a ⟨oo, oc, rfl, o2, of2, b2⟩
  have HA2 := Lib.hid (HA1.out.fresh b2)
  have HO := Lib.hid o2
  have HOF := Lib.hid (off_new HA1.out.lt of2)
  have HK := Lib.hid (opsL_two xs)
  clear o2 of2 b2 HA1 HX HY
  generalize New w w1 = F at *
  have HO8 := opsL_len 2 xs
  generalize opsL 2 xs = os at *
  obtain ⟨ol, hol⟩ : ∃ ol, os.length = ol := ⟨_, rfl⟩
  rw [hol] at HO ⊢
  have HOL := Lib.hid hol
  have h80 : ol ≤ 80 := by rw [← hol]; exact HO8
  clear hol
  have HS := Lib.hid (show StackRel w a F q m ol false (.slice none 0 0) (.int .i64 0) a from ⟨0, F, [], none, 0, Nat.zero_le _, rfl, rfl, Nat.le_refl _, HA2.out, ⟨⟨rfl, fun h => by simp at h⟩, fun _ h => by simp at h, fun _ h => by simp at h⟩, Wrote.refl _ _, Later.refl _ _⟩)
  clear HA2
  go_wp2
  go_loopw [9, 10] (fun l i wr => StackRel w a F q m ol false l i wr) (fun _ i _ => ol - (intOf i).toNat)
  case atStart => exact HS.out
  case round =>
    obtain ⟨k, F', zs, al, cl, hk, rfl, rfl, hcl, ha, hbe, hw, hl⟩ := hrel
    have HZL := Lib.hid (show zs.length ≤ 1000 by have := ha.1.len; rwa [seen_len] at this)
    have HA := Lib.hid ha
    have HBe := Lib.hid hbe
    have HW := Lib.hid hw
    have HL := Lib.hid hl
    clear HS ha hbe hw hl
    by_cases hlt : k < ol
    · have hkl : k < os.length := by rw [HOL.out]; exact hlt
      obtain ⟨bb, off, rfl, bl, hc⟩ := (HO.out.off HOF.out HW.out).2 (by omega)
      obtain ⟨y0, y1⟩ := hc k hlt
      have ho : (os.getD k (0, 0)).1 = 1 ∨ (os.getD k (0, 0)).1 = 2 := by simpa [List.getD, hkl] using HK.out os[k] (List.getElem_mem hkl)
      have i0 : (k : Int) < ol := by omega
      clear hc hkl
      generalize (os.getD k (0, 0)).1 = o1 at *
      generalize (os.getD k (0, 0)).2 = o2 at *
      rcases ho with rfl | rfl
      · skip
        have E := left1 m zs o2
        have RD := fun (W : World) (hr : Reads .i32 W al zs.length zs) => refDo (most % 9) 1 o2 hr hcl HZL.out
        rw [HM.out, ← E.2.1, ← E.2.2] at RD
        have HD := Lib.hid (fun (W : World) (F : Nat → Prop) (h : Rng W F q m (seen false zs)) => by have := doAny h 1 o2; rwa [E.1] at this)
        clear E
        generalize stkL m zs 1 o2 = zs2 at *
        generalize dqC m (seen false zs) 1 = rc at *
        generalize dqV (seen false zs) 1 = rv at *
        go_wp2
        have z0 : wr.drew.cell? ⟨bb, off + k * 2, none⟩ = some (.int .u8 1) := y0
        have z1 : wr.drew.cell? ⟨bb, off + k * 2 + 1, none⟩ = some (.int .i32 o2) := y1
        go_region_held3 (fun w' => w'.cell? ⟨bb, off + k * 2, none⟩ = some (.int .u8 1) ∧ w'.cell? ⟨bb, off + k * 2 + 1, none⟩ = some (.int .i32 o2)) (first | exact ⟨y0, y1⟩ | exact ⟨z0, z1⟩ | (refine ⟨?_, ?_⟩ <;> go_simp)) (fail)
        go_upto_region 12 with (fail)
        rw [show IntKind.u8.wrap (IntKind.u8.wrap 2 - 1) = 1 by decide]
        generalize hW : (wr.alloc (.cells #[.int .u8 1, .int .i32 o2] 34)).drew = W
        have hb3 : Below wr.heap.size wr W := by subst hW; exact ((Below.refl _ _).alloc (Nat.le_refl _) _).drew
        have HX3 := Lib.hid (show OBox W wr.heap.size 1 o2 by subst hW; exact OBox.new _ _ _)
        have HG3 := Lib.hid (show ¬ F' wr.heap.size from fun e => by have := HA.out.lt _ e; omega)
        have HA3 := Lib.hid (HA.out.fresh hb3)
        have HBe3 := Lib.hid (HBe.out.keep hb3)
        have HW3 := Lib.hid (HW.out.trans (Wrote.of hb3 F))
        have HO3 := Lib.hid (And.intro ((hb3.cell (p := ⟨bb, off + k * 2, none⟩) bl).trans y0) ((hb3.cell (p := ⟨bb, off + k * 2 + 1, none⟩) bl).trans y1))
        have bl3 : bb < W.heap.size := Nat.lt_of_lt_of_le bl hb3.size
        obtain ⟨v0, v1⟩ := HO3.out
        have C := RD W HBe3.out.1
        clear hW hb3 z0 z1 y0 y1 RD HA HBe HW
        go_wp2_with fail
        refine C.mono ?_
        clear C
        rintro e w4 ⟨an, cn, rfl, r4, hc4, hor, b4⟩
        have HBe4 := Lib.hid (beside_next HA3.out.lt HBe3.out r4 hor b4)
        have HA4 := Lib.hid (HA3.out.fresh b4)
        have HX4 := Lib.hid (HX3.out.keep b4)
        have HW4 := Lib.hid (HW3.out.trans (Wrote.of b4 F))
        have HZ4 := Lib.hid (show wr.heap.size < w4.heap.size from Nat.lt_of_lt_of_le HX3.out.lt b4.size)
        clear r4 hor b4 HA3 HBe3 HX3 HW3 HO3 v0 v1 bl3
        generalize wr.heap.size = g at *
        go_upto_region 13 with (fail)
        generalize hW : w4.alloc (.cells #[.int .u8 rc, .int .i32 rv] 31) = W5
        have hb5 : Below w4.heap.size w4 W5 := by subst hW; exact (Below.refl _ _).alloc (Nat.le_refl _) _
        have HR5 := Lib.hid (show RBox W5 w4.heap.size rc rv by subst hW; exact RBox.new _ _ _)
        have HG5 := Lib.hid (show ¬ F' w4.heap.size from fun e => by have := HA4.out.lt _ e; omega)
        have HA5 := Lib.hid (HA4.out.fresh hb5)
        have HBe5 := Lib.hid (HBe4.out.keep hb5)
        have HX5 := Lib.hid (HX4.out.keep hb5)
        have HW5 := Lib.hid (HW4.out.trans (Wrote.of hb5 F))
        clear hW hb5 HA4 HBe4 HX4 HW4 HZ4
        generalize w4.heap.size = g2 at *
        have g0 := HX5.out.c0
        have g1 := HX5.out.c1
        have g2c := HR5.out.c0
        have g3c := HR5.out.c1
        have CD := HD.out W5.drew F' HA5.out.drew.1
        clear HD
        go_region_held3 (fun w' => w'.cell? ⟨g, 0, none⟩ = some (.int .u8 1) ∧ w'.cell? ⟨g, 1, none⟩ = some (.int .i32 o2) ∧ w'.cell? ⟨g2, 0, none⟩ = some (.int .u8 rc) ∧ w'.cell? ⟨g2, 1, none⟩ = some (.int .i32 rv)) (first | exact ⟨g0, g1, g2c, g3c⟩ | exact ⟨h0, h1, h2, h3⟩) (first | (go_at_call 14; refine CD.mono ?_; rintro e w6 ⟨rfl, d6⟩; obtain ⟨F6, a6, wr6, l6⟩ := HA5.out.drew.next d6; have x6 := (show OBox W5.drew g 1 o2 from HX5.out).off HG3.out wr6; have r6 := (show RBox W5.drew g2 rc rv from HR5.out).off HG5.out wr6; have h0 := x6.c0; have h1 := x6.c1; have h2 := r6.c0; have h3 := r6.c1; have H6 := Lib.hid (show StackRel w a F q m ol false (.slice an zs2.length cn) (.int .i64 ((k : Int) + 1)) w6 from ⟨k + 1, F6, zs2, an, cn, by omega, by go_num, rfl, hc4, a6, (HBe5.out.keep (Below.refl _ W5).drew).off wr6 l6, HW5.out.drew.step HL.out wr6, HL.out.trans l6 HW5.out.size⟩); clear d6 a6 wr6 l6 x6 r6))
        all_goals go_wp2
        go_roundw
        case rel => exact H6.out
        case measure => simp [intOf]; omega
      · skip
        have E := left2 m zs o2
        have RD := fun (W : World) (hr : Reads .i32 W al zs.length zs) => refDo (most % 9) 2 o2 hr hcl HZL.out
        rw [HM.out, ← E.2.1, ← E.2.2] at RD
        have HD := Lib.hid (fun (W : World) (F : Nat → Prop) (h : Rng W F q m (seen false zs)) => by have := doAny h 3 o2; rwa [E.1] at this)
        clear E
        generalize stkL m zs 2 o2 = zs2 at *
        generalize dqC m (seen false zs) 3 = rc at *
        generalize dqV (seen false zs) 3 = rv at *
        go_wp2
        have z0 : wr.drew.cell? ⟨bb, off + k * 2, none⟩ = some (.int .u8 2) := y0
        have z1 : wr.drew.cell? ⟨bb, off + k * 2 + 1, none⟩ = some (.int .i32 o2) := y1
        go_region_held3 (fun w' => w'.cell? ⟨bb, off + k * 2, none⟩ = some (.int .u8 2) ∧ w'.cell? ⟨bb, off + k * 2 + 1, none⟩ = some (.int .i32 o2)) (first | exact ⟨y0, y1⟩ | exact ⟨z0, z1⟩ | (refine ⟨?_, ?_⟩ <;> go_simp)) (fail)
        go_upto_region 12 with (fail)
        rw [show IntKind.u8.wrap (IntKind.u8.wrap 4 - 1) = 3 by decide]
        generalize hW : (wr.alloc (.cells #[.int .u8 3, .int .i32 o2] 34)).drew = W
        have hb3 : Below wr.heap.size wr W := by subst hW; exact ((Below.refl _ _).alloc (Nat.le_refl _) _).drew
        have HX3 := Lib.hid (show OBox W wr.heap.size 3 o2 by subst hW; exact OBox.new _ _ _)
        have HG3 := Lib.hid (show ¬ F' wr.heap.size from fun e => by have := HA.out.lt _ e; omega)
        have HA3 := Lib.hid (HA.out.fresh hb3)
        have HBe3 := Lib.hid (HBe.out.keep hb3)
        have HW3 := Lib.hid (HW.out.trans (Wrote.of hb3 F))
        have HO3 := Lib.hid (And.intro ((hb3.cell (p := ⟨bb, off + k * 2, none⟩) bl).trans y0) ((hb3.cell (p := ⟨bb, off + k * 2 + 1, none⟩) bl).trans y1))
        have bl3 : bb < W.heap.size := Nat.lt_of_lt_of_le bl hb3.size
        obtain ⟨v0, v1⟩ := HO3.out
        have C := RD W HBe3.out.1
        clear hW hb3 z0 z1 y0 y1 RD HA HBe HW
        go_wp2_with fail
        refine C.mono ?_
        clear C
        rintro e w4 ⟨an, cn, rfl, r4, hc4, hor, b4⟩
        have HBe4 := Lib.hid (beside_next HA3.out.lt HBe3.out r4 hor b4)
        have HA4 := Lib.hid (HA3.out.fresh b4)
        have HX4 := Lib.hid (HX3.out.keep b4)
        have HW4 := Lib.hid (HW3.out.trans (Wrote.of b4 F))
        have HZ4 := Lib.hid (show wr.heap.size < w4.heap.size from Nat.lt_of_lt_of_le HX3.out.lt b4.size)
        clear r4 hor b4 HA3 HBe3 HX3 HW3 HO3 v0 v1 bl3
        generalize wr.heap.size = g at *
        go_upto_region 13 with (fail)
        generalize hW : w4.alloc (.cells #[.int .u8 rc, .int .i32 rv] 31) = W5
        have hb5 : Below w4.heap.size w4 W5 := by subst hW; exact (Below.refl _ _).alloc (Nat.le_refl _) _
        have HR5 := Lib.hid (show RBox W5 w4.heap.size rc rv by subst hW; exact RBox.new _ _ _)
        have HG5 := Lib.hid (show ¬ F' w4.heap.size from fun e => by have := HA4.out.lt _ e; omega)
        have HA5 := Lib.hid (HA4.out.fresh hb5)
        have HBe5 := Lib.hid (HBe4.out.keep hb5)
        have HX5 := Lib.hid (HX4.out.keep hb5)
        have HW5 := Lib.hid (HW4.out.trans (Wrote.of hb5 F))
        clear hW hb5 HA4 HBe4 HX4 HW4 HZ4
        generalize w4.heap.size = g2 at *
        have g0 := HX5.out.c0
        have g1 := HX5.out.c1
        have g2c := HR5.out.c0
        have g3c := HR5.out.c1
        have CD := HD.out W5.drew F' HA5.out.drew.1
        clear HD
        go_region_held3 (fun w' => w'.cell? ⟨g, 0, none⟩ = some (.int .u8 3) ∧ w'.cell? ⟨g, 1, none⟩ = some (.int .i32 o2) ∧ w'.cell? ⟨g2, 0, none⟩ = some (.int .u8 rc) ∧ w'.cell? ⟨g2, 1, none⟩ = some (.int .i32 rv)) (first | exact ⟨g0, g1, g2c, g3c⟩ | exact ⟨h0, h1, h2, h3⟩) (first | (go_at_call 14; refine CD.mono ?_; rintro e w6 ⟨rfl, d6⟩; obtain ⟨F6, a6, wr6, l6⟩ := HA5.out.drew.next d6; have x6 := (show OBox W5.drew g 3 o2 from HX5.out).off HG3.out wr6; have r6 := (show RBox W5.drew g2 rc rv from HR5.out).off HG5.out wr6; have h0 := x6.c0; have h1 := x6.c1; have h2 := r6.c0; have h3 := r6.c1; have H6 := Lib.hid (show StackRel w a F q m ol false (.slice an zs2.length cn) (.int .i64 ((k : Int) + 1)) w6 from ⟨k + 1, F6, zs2, an, cn, by omega, by go_num, rfl, hc4, a6, (HBe5.out.keep (Below.refl _ W5).drew).off wr6 l6, HW5.out.drew.step HL.out wr6, HL.out.trans l6 HW5.out.size⟩); clear d6 a6 wr6 l6 x6 r6))
        all_goals go_wp2
        go_roundw
        case rel => exact H6.out
        case measure => simp [intOf]; omega
    · obtain rfl : k = ol := by omega
      clear HO HK HM HOF HW HL
      go_wp2_with fail
      refine (known _).mono ?_
      rintro e w7 ⟨rfl, b7⟩
      have HA7 := Lib.hid (HA.out.fresh b7)
      have C := lenAny HA7.out.1
      rw [seen_len] at C
      clear b7 HA HBe
      go_wp2_with fail
      refine C.mono ?_
      clear C
      rintro e w' ⟨rfl, rfl⟩
      go_wp2
      go_ret
      exact ⟨rfl, HA7.out.2.1⟩

theorem stackWalk {w : World} (most : Int) (ao : Option Addr) (len cap : Nat) (xs : List Int) (right : Bool) (m0 : 0 ≤ most) (m1 : most ≤ 255) (hx : ArgBytes w ao len cap xs) (hlen : len ≤ 140737488351232) :
    Calls Try.prog 7 #[.int .u8 most, .slice ao len cap, .bool right] w fun e w' => e = .returned (.bool true) ∧ Below w.heap.size w w' := by
  cases right
  · exact stackLeft most ao len cap xs m0 m1 hx hlen
  · exact stackRight most ao len cap xs m0 m1 hx hlen

end Go.Proofs.Ythjcfeljbmehmaa
