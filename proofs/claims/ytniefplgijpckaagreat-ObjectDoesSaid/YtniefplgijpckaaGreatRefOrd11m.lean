/-
  What reaperref08.Order tells: as ordL says; equality of ints. Conditions: at most a thousand operations.
-/
import Derived.Test.YtniefplgijpckaaGreatOrdA12
import Derived.Test.YtniefplgijpckaaGreatRefB12
import Derived.Test.YtniefplgijpckaaGreatBasB12
namespace Go.Proofs.YtniefplgijpckaaGreat
open Go.RowKit Go.Lib

/-- The boxes of two operations. -/
theorem twoBoxes (w : World) (a1 a2 b1 b2 : Int) : ∀ W, (w.alloc (.cells #[.int .u8 a1, .int .i32 a2] 49)).alloc (.cells #[.int .u8 b1, .int .i32 b2] 49) = W → OBox W w.heap.size a1 a2 ∧ OBox W (w.heap.size + 1) b1 b2 ∧ Below w.heap.size w W := by
  rintro W rfl
  refine ⟨(OBox.new w a1 a2).alloc _, ?_, ((Below.refl _ _).alloc (Nat.le_refl _) _).alloc (by simp) _⟩
  have := OBox.new (w.alloc (.cells #[.int .u8 a1, .int .i32 a2] 49)) b1 b2
  simpa using this

set_option maxRecDepth 100000 in
set_option maxHeartbeats 1600000 in
theorem lessSays (w : World) (a1 a2 b1 b2 : Int) :
    Calls Tryz.prog 45 #[.agg #[.int .u8 a1, .int .i32 a2], .agg #[.int .u8 b1, .int .i32 b2]] w fun e w' => e = .returned (.bool (lessO (a1, a2) (b1, b2))) ∧ Below w.heap.size w w' := by
  by_cases h1 : a1 = 1 <;> by_cases h2 : b1 = 1
  · subst h1 h2
    have HE := Lib.hid (show lessO (1, a2) (1, b2) = decide (a2 ≤ b2) from rfl)
    go_enter Tryz.func45, Tryz.ntmps45
    go_upto_region 1 with (fail)
    generalize hW : (w.alloc (.cells #[.int .u8 1, .int .i32 a2] 49)).alloc (.cells #[.int .u8 1, .int .i32 b2] 49) = W
    obtain ⟨x0, x1, hb⟩ := twoBoxes w _ _ _ _ W hW
    have y0 := x0.c0
    have y1 := x0.c1
    have y2 := x1.c0
    have y3 := x1.c1
    have HB := Lib.hid hb
    clear hW x0 x1 hb
    go_wp2
    go_ret
    exact ⟨by rw [HE.out]; rfl, HB.out⟩
  · subst h1
    have HE := Lib.hid (show lessO (1, a2) (b1, b2) = true from lessO_last h2)
    have d2 := beq_eq_false_iff_ne.2 h2
    go_enter Tryz.func45, Tryz.ntmps45
    go_upto_region 1 with (fail)
    generalize hW : (w.alloc (.cells #[.int .u8 1, .int .i32 a2] 49)).alloc (.cells #[.int .u8 b1, .int .i32 b2] 49) = W
    obtain ⟨x0, x1, hb⟩ := twoBoxes w _ _ _ _ W hW
    have y0 := x0.c0
    have y1 := x0.c1
    have y2 := x1.c0
    have y3 := x1.c1
    have HB := Lib.hid hb
    clear hW x0 x1 hb
    go_wp2
    go_ret
    exact ⟨by rw [HE.out]; rfl, HB.out⟩
  · subst h2
    have HE := Lib.hid (show lessO (a1, a2) (1, b2) = false from lessO_other h1 rfl)
    have d1 := beq_eq_false_iff_ne.2 h1
    go_enter Tryz.func45, Tryz.ntmps45
    go_upto_region 1 with (fail)
    generalize hW : (w.alloc (.cells #[.int .u8 a1, .int .i32 a2] 49)).alloc (.cells #[.int .u8 1, .int .i32 b2] 49) = W
    obtain ⟨x0, x1, hb⟩ := twoBoxes w _ _ _ _ W hW
    have y0 := x0.c0
    have y1 := x0.c1
    have y2 := x1.c0
    have y3 := x1.c1
    have HB := Lib.hid hb
    clear hW x0 x1 hb
    go_wp2
    go_ret
    exact ⟨by rw [HE.out]; rfl, HB.out⟩
  · have HE := Lib.hid (show lessO (a1, a2) (b1, b2) = true from lessO_last h2)
    have d1 := beq_eq_false_iff_ne.2 h1
    have d2 := beq_eq_false_iff_ne.2 h2
    go_enter Tryz.func45, Tryz.ntmps45
    go_upto_region 1 with (fail)
    generalize hW : (w.alloc (.cells #[.int .u8 a1, .int .i32 a2] 49)).alloc (.cells #[.int .u8 b1, .int .i32 b2] 49) = W
    obtain ⟨x0, x1, hb⟩ := twoBoxes w _ _ _ _ W hW
    have y0 := x0.c0
    have y1 := x0.c1
    have y2 := x1.c0
    have y3 := x1.c1
    have HB := Lib.hid hb
    clear hW x0 x1 hb
    go_wp2
    go_ret
    exact ⟨by rw [HE.out]; show Ending.returned (.bool (b1 != 1)) = _; rw [show (b1 != 1) = true by simpa using h2], HB.out⟩

/-- A list's front, and its rest. -/
theorem ints_take {w : World} {ao : Option Addr} {n k : Nat} {zs : List Int} (h : Reads .i64 w ao n zs) (hk : k ≤ n) : Reads .i64 w ao k (zs.take k) := by
  refine ⟨by rw [List.length_take, h.1, Nat.min_eq_left hk], fun hp => ?_⟩
  obtain ⟨b, off, e, bl, hc⟩ := h.2 (by omega)
  refine ⟨b, off, e, bl, fun i hi => ?_⟩
  rw [hc i (by omega)]
  simp [List.getD, hi]
theorem ints_drop {w : World} {b off n k : Nat} {zs : List Int} (h : Reads .i64 w (some ⟨b, off, none⟩) n zs) (hk : k < n) : Reads .i64 w (some ⟨b, off + k, none⟩) (n - k) (zs.drop k) := by
  refine ⟨by rw [List.length_drop, h.1], fun hp => ?_⟩
  obtain ⟨b', off', e, bl, hc⟩ := h.2 (by omega)
  simp only [Option.some.injEq, Addr.mk.injEq, and_true] at e
  obtain ⟨rfl, rfl⟩ := e
  refine ⟨b, off + k, rfl, bl, fun i hi => ?_⟩
  rw [Nat.add_assoc, hc (k + i) (by omega)]
  simp [List.getD]

theorem tk_len {obj : Int} {os : List (Int × Int)} {k e : Nat} (h : e ≤ k) : (((ordK obj os k).take e).map (Value.int .i64)).length = e * 1 := by rw [List.length_map, List.length_take, ordK_length]; omega
theorem dp_len {obj : Int} {os : List (Int × Int)} {k e m : Nat} (h : k - e = m) : (((ordK obj os k).drop e).map (Value.int .i64)).length = m * 1 := by rw [List.length_map, List.length_drop, ordK_length]; omega

/-- Rows of one's own that grow behind memory W. -/
def IGrow (W w1 : World) (v : Value) (m : Nat) (xs : List Value) : Prop := w1.ownsRow W.heap.size 3 1 v m xs ∧ Below W.heap.size W w1
section
variable {W w1 wr w2 : World} {v v2 : Value} {m m2 : Nat} {xs ys : List Value} {o : Obj}
theorem IGrow.one (hb : Below W.heap.size W wr) (q : w1.ownsRow W.heap.size 3 1 v (0 + m) ([] ++ xs)) (g : wr.grownBy w1 (Value.ownBlock (.slice none 0 0))) : IGrow W w1 v m xs := by
  rw [Nat.zero_add, List.nil_append] at q
  exact ⟨q, hb.grown g hb.size (fun k e => by cases e)⟩
theorem IGrow.more (h : IGrow W w1 v m xs) (q : w2.ownsRow W.heap.size 3 1 v2 m2 ys) (g : w1.grownBy w2 v.ownBlock) : IGrow W w2 v2 m2 ys :=
  ⟨q, h.2.grown g h.2.size (fun k e => (h.1.lt k e).1)⟩
theorem IGrow.box (h : IGrow W w1 v m xs) (q : w2.ownsRow W.heap.size 3 1 v2 m2 ys) (g : (w1.alloc o).grownBy w2 v.ownBlock) : IGrow W w2 v2 m2 ys :=
  ⟨q, (h.2.alloc h.2.size o).grown g (Nat.le_trans h.2.size (by simp)) (fun k e => (h.1.lt k e).1)⟩
end

/-- What holds at each round's head of Order. -/
def OrdAt (w : World) (obj : Int) (os : List (Int × Int)) (k : Nat) (l : Value) (wr : World) : Prop :=
  ∃ al cl, l = .slice al k cl ∧ Reads .i64 wr al k (ordK obj os k) ∧ k ≤ cl ∧ (∀ a, al = some a → w.heap.size ≤ a.block) ∧ Below w.heap.size w wr

theorem ordAt_next {w wr w3 : World} {obj : Int} {os : List (Int × Int)} {k e m : Nat} {v3 : Value} (hb : Below w.heap.size w wr)
    (h : IGrow wr w3 v3 m (((ordK obj os k).take e).map (Value.int .i64) ++ [.int .i64 (k : Int)] ++ ((ordK obj os k).drop e).map (Value.int .i64)))
    (hq : ((ordK obj os k).take e ++ [(k : Int)]) ++ (ordK obj os k).drop e = ordK obj os (k + 1)) (hm : m = k + 1) : OrdAt w obj os (k + 1) v3 w3 := by
  subst hm
  have hl := h.1
  rw [show ((ordK obj os k).take e).map (Value.int .i64) ++ [Value.int .i64 (k : Int)] ++ ((ordK obj os k).drop e).map (Value.int .i64) = (ordK obj os (k + 1)).map (Value.int .i64) by rw [← hq]; simp] at hl
  obtain ⟨a, cp, rfl, h1, h2, h3⟩ := reads_own hl
  exact ⟨a, cp, rfl, h1, h2, (fun y hy => Nat.le_trans hb.size (h3 y hy)), hb.trans (h.2.mono hb.size)⟩

set_option maxRecDepth 100000 in
set_option maxHeartbeats 8000000 in
theorem refOrderOther (w : World) (obj : Int) (ao : Option Addr) (n cap : Nat) (os : List (Int × Int)) (ho : OpsAt w ao n os) (hn : n ≤ 1000) (h3 : ¬ obj = 3) :
    Calls Tryz.prog 31 #[.int .u8 obj, .slice ao n cap] w fun e w' => ∃ al cl, e = .returned (.slice al n cl) ∧ Reads .i64 w' al n (ordL obj os) ∧ (∀ a, al = some a → w.heap.size ≤ a.block) ∧ Below w.heap.size w w' := by
  obtain ⟨i0, hi, hz0, hz1, hz2⟩ := info_parts infoInt
  have HO := Lib.hid ho
  have HN := Lib.hid ho.1
  have H3 := Lib.hid h3
  have d3 := beq_eq_false_iff_ne.2 h3
  clear h3
  clear ho
  have HS := Lib.hid (show OrdAt w obj os 0 (.slice none 0 0) w from ⟨none, 0, rfl, ⟨ordK_length _ _ _, fun h => by omega⟩, Nat.le_refl _, (fun a h => by cases h), Below.refl _ _⟩)
  go_enter Tryz.func31, Tryz.ntmps31
  go_wp2_with fail
  go_loopw [5, 6] (fun l i wr => ∃ k : Nat, k ≤ n ∧ i = .int .i64 k ∧ OrdAt w obj os k l wr) (fun _ i _ => n - (intOf i).toNat)
  case atStart => exact ⟨0, Nat.zero_le _, rfl, HS.out⟩
  case round =>
    obtain ⟨k, hk, rfl, al, cl, rfl, hrd, hcl, hnew, hb⟩ := hrel
    obtain ⟨w0, hw0⟩ : ∃ x, x = wr := ⟨_, rfl⟩
    subst hw0
    have HRr := Lib.hid hrd
    have HBr := Lib.hid hb
    have HNew := Lib.hid hnew
    clear HS hrd hb hnew
    have k0 : (0 : Int) ≤ (k : Int) := by omega
    have kc : (k : Int) ≤ cl := by omega
    by_cases hlt : k < n
    · have i1 : (k : Int) < n := by omega
      have HEQ := Lib.hid (show ((ordK obj os k).take k ++ [(k : Int)]) ++ (ordK obj os k).drop k = ordK obj os (k + 1) from by
        rw [List.take_of_length_le (by rw [ordK_length]; exact Nat.le_refl _), List.drop_eq_nil_of_le (by rw [ordK_length]; exact Nat.le_refl _), List.append_nil]
        exact ord_behind (by simp [isAdd, H3.out]))
      have HI := Lib.hid (show Below w0.heap.size w0 w0 from Below.refl _ _)
      go_wp2_with fail
      go_loopw [7] (fun i wr => i = .int .i64 k ∧ Below w0.heap.size w0 wr) (fun _ _ => 0)
      case atStart => exact ⟨rfl, HI.out⟩
      case round =>
        obtain ⟨rfl, hbx⟩ := hrel
        clear HI
        go_upto_region 6 with (fail)
        go_quiet (fail)
        have HBx := Lib.hid (below_drewN hbx nq)
        clear hbx
        generalize wr.drewN nq = wy at *
        go_wp2_with (first
          | (at_builtin; refine wpList_append_src _ rfl (.tmp 41) (.tmp 44) 73 rfl w0.heap.size 3 i0 _ 1 8 Tryz.underlying73 hi hz0 hz1 hz2 rfl (by decide) (.slice none 0 0) 0 [] rfl (World.ownsRow_nil _ _ _ _) _ _ _ (((ordK obj os k).take k).map (Value.int .i64)) rfl (tk_len (by omega)) (reads_src (ints_take (HRr.out.keep HBx.out) (by omega))) (ints_oneCell _ _) (by simp only [maxLen]; omega) (by omega) HBx.out.size ?_; intro v1 w1 q1 g1; have HG1 := Lib.hid (IGrow.one HBx.out q1 g1); obtain ⟨a1, cp1, rfl⟩ := ownShape HG1.out.1; clear q1 g1)
          | (at_builtin; refine wpList_append_own _ rfl (.tmp 46) (.tmp 48) 73 rfl w0.heap.size 3 i0 _ 1 8 Tryz.underlying73 hi hz0 hz1 hz2 rfl (by decide) _ k _ rfl (HG1.out.1.alloc _) ⟨w1.heap.size, 0, none⟩ 1 1 [.int .i64 k] rfl rfl (by intro j u hu; cases j <;> simp at hu; subst hu; go_simp) (by intro u hu; simp at hu; subst hu; rfl) (by simp only [maxLen]; omega) (by omega) (Nat.le_trans HG1.out.2.size (by simp)) ?_; intro v2 w2 q2 g2 _; have HG2 := Lib.hid (HG1.out.box q2 g2); obtain ⟨a2, cp2, rfl⟩ := ownShape q2; clear q2 g2 HG1)
          | (at_builtin; refine wpList_append_src _ rfl (.tmp 50) (.tmp 53) 73 rfl w0.heap.size 3 i0 _ 1 8 Tryz.underlying73 hi hz0 hz1 hz2 rfl (by decide) _ (k + 1) _ rfl HG2.out.1 _ _ _ (((ordK obj os k).drop k).map (Value.int .i64)) rfl (dp_len (by omega)) (fun h => absurd h (by omega)) (ints_oneCell _ _) (by simp only [maxLen]; omega) (by omega) HG2.out.2.size ?_; intro v3 w3 q3 g3; have HG3 := Lib.hid (HG2.out.more q3 g3); obtain ⟨a3, cp3, rfl⟩ := ownShape q3; clear q3 g3 HG2))
        all_goals
          go_roundw
          case rel => exact ⟨k + 1, by omega, by go_num, ordAt_next HBr.out HG3.out HEQ.out (by omega)⟩
          case measure => simp [intOf]; omega
    · obtain rfl : k = n := by omega
      have HF := Lib.hid (show Reads .i64 w0 al k (ordL obj os) by unfold ordL; rw [HN.out]; exact HRr.out)
      clear hlt
      go_wp2
      go_ret
      exact ⟨_, _, rfl, HF.out, HNew.out, HBr.out⟩

set_option maxRecDepth 100000 in
set_option maxHeartbeats 8000000 in
theorem refOrderHeap (w : World) (ao : Option Addr) (n cap : Nat) (os : List (Int × Int)) (ho : OpsAt w ao n os) (hn : n ≤ 1000) :
    Calls Tryz.prog 31 #[.int .u8 3, .slice ao n cap] w fun e w' => ∃ al cl, e = .returned (.slice al n cl) ∧ Reads .i64 w' al n (ordL 3 os) ∧ (∀ a, al = some a → w.heap.size ≤ a.block) ∧ Below w.heap.size w w' := by
  obtain ⟨i0, hi, hz0, hz1, hz2⟩ := info_parts infoInt
  have HO := Lib.hid ho
  have HN := Lib.hid ho.1
  clear ho
  have HS := Lib.hid (show OrdAt w 3 os 0 (.slice none 0 0) w from ⟨none, 0, rfl, ⟨ordK_length _ _ _, fun h => by omega⟩, Nat.le_refl _, (fun a h => by cases h), Below.refl _ _⟩)
  go_enter Tryz.func31, Tryz.ntmps31
  go_wp2_with fail
  go_loopw [5, 6] (fun l i wr => ∃ k : Nat, k ≤ n ∧ i = .int .i64 k ∧ OrdAt w 3 os k l wr) (fun _ i _ => n - (intOf i).toNat)
  case atStart => exact ⟨0, Nat.zero_le _, rfl, HS.out⟩
  case round =>
    obtain ⟨k, hk, rfl, al, cl, rfl, hrd, hcl, hnew, hb⟩ := hrel
    obtain ⟨w0, hw0⟩ : ∃ x, x = wr := ⟨_, rfl⟩
    subst hw0
    have HRr := Lib.hid hrd
    have HBr := Lib.hid hb
    have HNew := Lib.hid hnew
    clear HS hrd hb hnew
    have k0 : (0 : Int) ≤ (k : Int) := by omega
    have kc : (k : Int) ≤ cl := by omega
    by_cases hlt : k < n
    · have i1 : (k : Int) < n := by omega
      have HI := Lib.hid (show Below w0.heap.size w0 w0 from Below.refl _ _)
      obtain ⟨b, off, rfl, bl, hc⟩ := HO.out.2 (by omega)
      have HC := Lib.hid hc
      have HBL := Lib.hid bl
      clear hc bl
      go_wp2_with fail
      go_loopw [7] (fun i wr => ∃ e : Nat, e ≤ k ∧ i = .int .i64 e ∧ (∀ j, e ≤ j → j < k → lessB os ((ordK 3 os k).getD j 0) k = false) ∧ Below w0.heap.size w0 wr) (fun i _ => (intOf i).toNat)
      case atStart => exact ⟨k, Nat.le_refl _, rfl, fun j h1 h2 => by omega, HI.out⟩
      case round =>
        obtain ⟨e, he, rfl, hall, hbx⟩ := hrel
        have HAll := Lib.hid hall
        have HX := Lib.hid hbx
        clear HI hall hbx
        by_cases h0 : e = 0
        · by_cases hk0 : k = 0
          · have HEQ := Lib.hid (ord_insert (os := os) (k := k) (e := k) (Nat.le_refl _) (fun j h1 h2 => by omega) (.inl hk0))
            obtain rfl : e = k := by omega
            have g0 : decide (0 < e) = false := by simpa using h0
            clear h0 hk0
            go_upto_region 6 with (fail)
            go_quiet (fail)
            have HBx := Lib.hid (below_drewN HX.out nq)
            generalize wr.drewN nq = wy at *
            go_wp2_with (first
              | (at_builtin; refine wpList_append_src _ rfl (.tmp 41) (.tmp 44) 73 rfl w0.heap.size 3 i0 _ 1 8 Tryz.underlying73 hi hz0 hz1 hz2 rfl (by decide) (.slice none 0 0) 0 [] rfl (World.ownsRow_nil _ _ _ _) _ _ _ (((ordK 3 os e).take e).map (Value.int .i64)) rfl (tk_len (by omega)) (reads_src (ints_take (HRr.out.keep HBx.out) (by omega))) (ints_oneCell _ _) (by simp only [maxLen]; omega) (by omega) HBx.out.size ?_; intro v1 w1 q1 g1; have HG1 := Lib.hid (IGrow.one HBx.out q1 g1); obtain ⟨a1, cp1, rfl⟩ := ownShape HG1.out.1; clear q1 g1)
              | (at_builtin; refine wpList_append_own _ rfl (.tmp 46) (.tmp 48) 73 rfl w0.heap.size 3 i0 _ 1 8 Tryz.underlying73 hi hz0 hz1 hz2 rfl (by decide) _ e _ rfl (HG1.out.1.alloc _) ⟨w1.heap.size, 0, none⟩ 1 1 [.int .i64 e] rfl rfl (by intro j u hu; cases j <;> simp at hu; subst hu; go_simp) (by intro u hu; simp at hu; subst hu; rfl) (by simp only [maxLen]; omega) (by omega) (Nat.le_trans HG1.out.2.size (by simp)) ?_; intro v2 w2 q2 g2 _; have HG2 := Lib.hid (HG1.out.box q2 g2); obtain ⟨a2, cp2, rfl⟩ := ownShape q2; clear q2 g2 HG1)
              | (at_builtin; refine wpList_append_src _ rfl (.tmp 50) (.tmp 53) 73 rfl w0.heap.size 3 i0 _ 1 8 Tryz.underlying73 hi hz0 hz1 hz2 rfl (by decide) _ (e + 1) _ rfl HG2.out.1 _ _ _ (((ordK 3 os e).drop e).map (Value.int .i64)) rfl (dp_len (by omega)) (fun h => absurd h (by omega)) (ints_oneCell _ _) (by simp only [maxLen]; omega) (by omega) HG2.out.2.size ?_; intro v3 w3 q3 g3; have HG3 := Lib.hid (HG2.out.more q3 g3); obtain ⟨a3, cp3, rfl⟩ := ownShape q3; clear q3 g3 HG2))
            all_goals
              go_roundw
              case rel => exact ⟨e + 1, by omega, by go_num, ordAt_next HBr.out HG3.out HEQ.out (by omega)⟩
              case measure => simp [intOf]; omega
          · subst h0
            have HEQ := Lib.hid (ord_insert (os := os) (k := k) (e := 0) he HAll.out (.inl rfl))
            obtain ⟨lb, lo, rfl, ll, lc⟩ := HRr.out.2 (by omega)
            have HKP := Lib.hid (show 0 < k by omega)
            clear ll lc hk0
            go_upto_region 6 with (fail)
            go_quiet (fail)
            have HBx := Lib.hid (below_drewN HX.out nq)
            generalize wr.drewN nq = wy at *
            go_wp2_with (first
              | (at_builtin; refine wpList_append_src _ rfl (.tmp 41) (.tmp 44) 73 rfl w0.heap.size 3 i0 _ 1 8 Tryz.underlying73 hi hz0 hz1 hz2 rfl (by decide) (.slice none 0 0) 0 [] rfl (World.ownsRow_nil _ _ _ _) _ _ _ (((ordK 3 os k).take 0).map (Value.int .i64)) rfl (tk_len (by omega)) (reads_src (ints_take (HRr.out.keep HBx.out) (by omega))) (ints_oneCell _ _) (by simp only [maxLen]; omega) (by omega) HBx.out.size ?_; intro v1 w1 q1 g1; have HG1 := Lib.hid (IGrow.one HBx.out q1 g1); obtain ⟨a1, cp1, rfl⟩ := ownShape HG1.out.1; clear q1 g1)
              | (at_builtin; refine wpList_append_own _ rfl (.tmp 46) (.tmp 48) 73 rfl w0.heap.size 3 i0 _ 1 8 Tryz.underlying73 hi hz0 hz1 hz2 rfl (by decide) _ 0 _ rfl (HG1.out.1.alloc _) ⟨w1.heap.size, 0, none⟩ 1 1 [.int .i64 k] rfl rfl (by intro j u hu; cases j <;> simp at hu; subst hu; go_simp) (by intro u hu; simp at hu; subst hu; rfl) (by simp only [maxLen]; omega) (by omega) (Nat.le_trans HG1.out.2.size (by simp)) ?_; intro v2 w2 q2 g2 _; have HG2 := Lib.hid (HG1.out.box q2 g2); obtain ⟨a2, cp2, rfl⟩ := ownShape q2; clear q2 g2 HG1)
              | (at_builtin; refine wpList_append_src _ rfl (.tmp 50) (.tmp 53) 73 rfl w0.heap.size 3 i0 _ 1 8 Tryz.underlying73 hi hz0 hz1 hz2 rfl (by decide) _ (0 + 1) _ rfl HG2.out.1 _ _ _ (((ordK 3 os k).drop 0).map (Value.int .i64)) rfl (dp_len (by omega)) (reads_src (ints_drop (HRr.out.keep HG2.out.2) HKP.out)) (ints_oneCell _ _) (by simp only [maxLen]; omega) (by omega) HG2.out.2.size ?_; intro v3 w3 q3 g3; have HG3 := Lib.hid (HG2.out.more q3 g3); obtain ⟨a3, cp3, rfl⟩ := ownShape q3; clear q3 g3 HG2))
            all_goals
              go_roundw
              case rel => exact ⟨k + 1, by omega, by go_num, ordAt_next HBr.out HG3.out HEQ.out (by omega)⟩
              case measure => simp [intOf]; omega
        · obtain ⟨j, hj⟩ : ∃ j, e = j + 1 := ⟨e - 1, by omega⟩
          have HJ := Lib.hid hj
          have hjk : j < k := by omega
          obtain ⟨lb, lo, rfl, ll, lc⟩ := HRr.out.2 (by omega)
          obtain ⟨z, hz⟩ : ∃ z, (ordK 3 os k).getD j 0 = z := ⟨_, rfl⟩
          have hzb : 0 ≤ z ∧ z < (k : Int) := mem_idx.1 ((ordK_perm 3 os k).mem_iff.1 (by rw [← hz]; simp [List.getD, show j < (ordK 3 os k).length by rw [ordK_length]; exact hjk]))
          obtain ⟨p, rfl⟩ : ∃ p : Nat, z = p := ⟨z.toNat, by omega⟩
          have hpn : p < n := by omega
          have hlk : lessB os ((ordK 3 os k).getD j 0) k = lessO (os.getD p (0, 0)) (os.getD k (0, 0)) := by rw [hz]; unfold lessB; simp
          have g0 := (HX.out.cell (p := ⟨lb, lo + j, none⟩) ll).trans (lc j hjk)
          rw [hz] at g0
          have hbw := HBr.out.trans (HX.out.mono HBr.out.size)
          have g1 := (hbw.cell (p := ⟨b, off + p * 2, none⟩) HBL.out).trans (HC.out p hpn).1
          have g2 := (hbw.cell (p := ⟨b, off + p * 2 + 1, none⟩) HBL.out).trans (HC.out p hpn).2
          have g3 := (hbw.cell (p := ⟨b, off + k * 2, none⟩) HBL.out).trans (HC.out k hlt).1
          have g4 := (hbw.cell (p := ⟨b, off + k * 2 + 1, none⟩) HBL.out).trans (HC.out k hlt).2
          have HLT := Lib.hid (And.intro (show lb < wr.heap.size from Nat.lt_of_lt_of_le ll HX.out.size) (show b < wr.heap.size from Nat.lt_of_lt_of_le HBL.out hbw.size))
          have K := lessSays wr.drew (os.getD p (0, 0)).1 (os.getD p (0, 0)).2 (os.getD k (0, 0)).1 (os.getD k (0, 0)).2
          have hlk2 : lessO ((os.getD p (0, 0)).1, (os.getD p (0, 0)).2) ((os.getD k (0, 0)).1, (os.getD k (0, 0)).2) = lessB os ((ordK 3 os k).getD j 0) k := hlk.symm
          rw [hlk2] at K
          generalize (os.getD p (0, 0)).1 = a1 at *
          generalize (os.getD p (0, 0)).2 = a2 at *
          generalize (os.getD k (0, 0)).1 = b1 at *
          generalize (os.getD k (0, 0)).2 = b2 at *
          have HXd := Lib.hid HX.out.drew
          obtain ⟨bb, hbb⟩ : ∃ bb, lessB os ((ordK 3 os k).getD j 0) k = bb := ⟨_, rfl⟩
          rw [hbb] at K
          have HBB := Lib.hid hbb
          have ej : IntKind.i64.wrap ((e : Int) - 1) = (j : Int) := by rw [IntKind.wrap_i64]; omega
          have ej2 : (e : Int) - 1 = (j : Int) := by omega
          have ej3 : IntKind.i64.wrap (j : Int) = (j : Int) := by rw [IntKind.wrap_i64]; omega
          have e0 : (0 : Int) < (e : Int) := by omega
          have e00 : decide (0 < e) = true := by simp; omega
          have j1 : (j : Int) < (k : Int) := by omega
          have p1 : (p : Int) < (n : Int) := by omega
          clear ll lc hz hzb hlk hlk2 hbw hbb hj h0
          go_upto_region 6 with (fail)
          cases bb
          · have HNx := Lib.hid (show ∀ i, j ≤ i → i < k → lessB os ((ordK 3 os k).getD i 0) k = false from fun i h1 h2 => by
              by_cases h : i = j
              · subst h; exact HBB.out
              · exact HAll.out i (by have := HJ.out; omega) h2)
            go_region_held3 (fun w' => w'.cell? ⟨lb, lo + j, none⟩ = some (.int .i64 (p : Int)) ∧ w'.cell? ⟨b, off + p * 2, none⟩ = some (.int .u8 a1) ∧ w'.cell? ⟨b, off + p * 2 + 1, none⟩ = some (.int .i32 a2) ∧ w'.cell? ⟨b, off + k * 2, none⟩ = some (.int .u8 b1) ∧ w'.cell? ⟨b, off + k * 2 + 1, none⟩ = some (.int .i32 b2)) (first | exact ⟨g0, g1, g2, g3, g4⟩ | exact ⟨h0, h1, h2, h3, h4⟩) ((go_at_call 45; refine K.mono ?_; rintro e6 w6 ⟨rfl, b6⟩; have h0 := (b6.cell (p := ⟨lb, lo + j, none⟩) HLT.out.1).trans g0; have h1 := (b6.cell (p := ⟨b, off + p * 2, none⟩) HLT.out.2).trans g1; have h2 := (b6.cell (p := ⟨b, off + p * 2 + 1, none⟩) HLT.out.2).trans g2; have h3 := (b6.cell (p := ⟨b, off + k * 2, none⟩) HLT.out.2).trans g3; have h4 := (b6.cell (p := ⟨b, off + k * 2 + 1, none⟩) HLT.out.2).trans g4; have HB6 := Lib.hid (HXd.out.trans (b6.mono HXd.out.size)); clear b6))
            all_goals
              go_wp2
              go_roundw
              case rel => exact ⟨j, by omega, by go_num, HNx.out, HB6.out⟩
              case measure => have := HJ.out; simp [intOf]; omega
          · by_cases hek : e = k
            · subst hek
              have HEQ := Lib.hid (ord_insert (os := os) (k := e) (e := e) he HAll.out (.inr (by have := HJ.out; rw [show e - 1 = j by omega]; exact HBB.out)))
              go_region_held3 (fun w' => w'.cell? ⟨lb, lo + j, none⟩ = some (.int .i64 (p : Int)) ∧ w'.cell? ⟨b, off + p * 2, none⟩ = some (.int .u8 a1) ∧ w'.cell? ⟨b, off + p * 2 + 1, none⟩ = some (.int .i32 a2) ∧ w'.cell? ⟨b, off + e * 2, none⟩ = some (.int .u8 b1) ∧ w'.cell? ⟨b, off + e * 2 + 1, none⟩ = some (.int .i32 b2)) (first | exact ⟨g0, g1, g2, g3, g4⟩ | exact ⟨h0, h1, h2, h3, h4⟩) ((go_at_call 45; refine K.mono ?_; rintro e6 w6 ⟨rfl, b6⟩; have h0 := (b6.cell (p := ⟨lb, lo + j, none⟩) HLT.out.1).trans g0; have h1 := (b6.cell (p := ⟨b, off + p * 2, none⟩) HLT.out.2).trans g1; have h2 := (b6.cell (p := ⟨b, off + p * 2 + 1, none⟩) HLT.out.2).trans g2; have h3 := (b6.cell (p := ⟨b, off + e * 2, none⟩) HLT.out.2).trans g3; have h4 := (b6.cell (p := ⟨b, off + e * 2 + 1, none⟩) HLT.out.2).trans g4; have HB6 := Lib.hid (HXd.out.trans (b6.mono HXd.out.size)); clear b6))
              all_goals
                have HBx := HB6
                clear ej ej2 ej3
                go_wp2_with (first
                  | (at_builtin; refine wpList_append_src _ rfl (.tmp 41) (.tmp 44) 73 rfl w0.heap.size 3 i0 _ 1 8 Tryz.underlying73 hi hz0 hz1 hz2 rfl (by decide) (.slice none 0 0) 0 [] rfl (World.ownsRow_nil _ _ _ _) _ _ _ (((ordK 3 os e).take e).map (Value.int .i64)) rfl (tk_len (by omega)) (reads_src (ints_take (HRr.out.keep HBx.out) (by omega))) (ints_oneCell _ _) (by simp only [maxLen]; omega) (by omega) HBx.out.size ?_; intro v1 w1 q1 g1; have HG1 := Lib.hid (IGrow.one HBx.out q1 g1); obtain ⟨a1, cp1, rfl⟩ := ownShape HG1.out.1; clear q1 g1)
                  | (at_builtin; refine wpList_append_own _ rfl (.tmp 46) (.tmp 48) 73 rfl w0.heap.size 3 i0 _ 1 8 Tryz.underlying73 hi hz0 hz1 hz2 rfl (by decide) _ e _ rfl (HG1.out.1.alloc _) ⟨w1.heap.size, 0, none⟩ 1 1 [.int .i64 e] rfl rfl (by intro j u hu; cases j <;> simp at hu; subst hu; go_simp) (by intro u hu; simp at hu; subst hu; rfl) (by simp only [maxLen]; omega) (by omega) (Nat.le_trans HG1.out.2.size (by simp)) ?_; intro v2 w2 q2 g2 _; have HG2 := Lib.hid (HG1.out.box q2 g2); obtain ⟨a2, cp2, rfl⟩ := ownShape q2; clear q2 g2 HG1)
                  | (at_builtin; refine wpList_append_src _ rfl (.tmp 50) (.tmp 53) 73 rfl w0.heap.size 3 i0 _ 1 8 Tryz.underlying73 hi hz0 hz1 hz2 rfl (by decide) _ (e + 1) _ rfl HG2.out.1 _ _ _ (((ordK 3 os e).drop e).map (Value.int .i64)) rfl (dp_len (by omega)) (fun h => absurd h (by omega)) (ints_oneCell _ _) (by simp only [maxLen]; omega) (by omega) HG2.out.2.size ?_; intro v3 w3 q3 g3; have HG3 := Lib.hid (HG2.out.more q3 g3); obtain ⟨a3, cp3, rfl⟩ := ownShape q3; clear q3 g3 HG2))
                all_goals
                  go_roundw
                  case rel => exact ⟨e + 1, by omega, by go_num, ordAt_next HBr.out HG3.out HEQ.out (by omega)⟩
                  case measure => simp [intOf]; omega
            · have HEQ := Lib.hid (ord_insert (os := os) (k := k) (e := e) he HAll.out (.inr (by have := HJ.out; rw [show e - 1 = j by omega]; exact HBB.out)))
              have hek : e < k := by omega
              have ek1 : (e : Int) ≤ (k : Int) := by omega
              go_region_held3 (fun w' => w'.cell? ⟨lb, lo + j, none⟩ = some (.int .i64 (p : Int)) ∧ w'.cell? ⟨b, off + p * 2, none⟩ = some (.int .u8 a1) ∧ w'.cell? ⟨b, off + p * 2 + 1, none⟩ = some (.int .i32 a2) ∧ w'.cell? ⟨b, off + k * 2, none⟩ = some (.int .u8 b1) ∧ w'.cell? ⟨b, off + k * 2 + 1, none⟩ = some (.int .i32 b2)) (first | exact ⟨g0, g1, g2, g3, g4⟩ | exact ⟨h0, h1, h2, h3, h4⟩) ((go_at_call 45; refine K.mono ?_; rintro e6 w6 ⟨rfl, b6⟩; have h0 := (b6.cell (p := ⟨lb, lo + j, none⟩) HLT.out.1).trans g0; have h1 := (b6.cell (p := ⟨b, off + p * 2, none⟩) HLT.out.2).trans g1; have h2 := (b6.cell (p := ⟨b, off + p * 2 + 1, none⟩) HLT.out.2).trans g2; have h3 := (b6.cell (p := ⟨b, off + k * 2, none⟩) HLT.out.2).trans g3; have h4 := (b6.cell (p := ⟨b, off + k * 2 + 1, none⟩) HLT.out.2).trans g4; have HB6 := Lib.hid (HXd.out.trans (b6.mono HXd.out.size)); clear b6))
              all_goals
                have HBx := HB6
                clear ej ej2 ej3
                go_wp2_with (first
                  | (at_builtin; refine wpList_append_src _ rfl (.tmp 41) (.tmp 44) 73 rfl w0.heap.size 3 i0 _ 1 8 Tryz.underlying73 hi hz0 hz1 hz2 rfl (by decide) (.slice none 0 0) 0 [] rfl (World.ownsRow_nil _ _ _ _) _ _ _ (((ordK 3 os k).take e).map (Value.int .i64)) rfl (tk_len (by omega)) (reads_src (ints_take (HRr.out.keep HBx.out) (by omega))) (ints_oneCell _ _) (by simp only [maxLen]; omega) (by omega) HBx.out.size ?_; intro v1 w1 q1 g1; have HG1 := Lib.hid (IGrow.one HBx.out q1 g1); obtain ⟨a1, cp1, rfl⟩ := ownShape HG1.out.1; clear q1 g1)
                  | (at_builtin; refine wpList_append_own _ rfl (.tmp 46) (.tmp 48) 73 rfl w0.heap.size 3 i0 _ 1 8 Tryz.underlying73 hi hz0 hz1 hz2 rfl (by decide) _ e _ rfl (HG1.out.1.alloc _) ⟨w1.heap.size, 0, none⟩ 1 1 [.int .i64 k] rfl rfl (by intro j u hu; cases j <;> simp at hu; subst hu; go_simp) (by intro u hu; simp at hu; subst hu; rfl) (by simp only [maxLen]; omega) (by omega) (Nat.le_trans HG1.out.2.size (by simp)) ?_; intro v2 w2 q2 g2 _; have HG2 := Lib.hid (HG1.out.box q2 g2); obtain ⟨a2, cp2, rfl⟩ := ownShape q2; clear q2 g2 HG1)
                  | (at_builtin; refine wpList_append_src _ rfl (.tmp 50) (.tmp 53) 73 rfl w0.heap.size 3 i0 _ 1 8 Tryz.underlying73 hi hz0 hz1 hz2 rfl (by decide) _ (e + 1) _ rfl HG2.out.1 _ _ _ (((ordK 3 os k).drop e).map (Value.int .i64)) rfl (dp_len (by omega)) (reads_src (ints_drop (HRr.out.keep HG2.out.2) hek)) (ints_oneCell _ _) (by simp only [maxLen]; omega) (by omega) HG2.out.2.size ?_; intro v3 w3 q3 g3; have HG3 := Lib.hid (HG2.out.more q3 g3); obtain ⟨a3, cp3, rfl⟩ := ownShape q3; clear q3 g3 HG2))
                all_goals
                  go_roundw
                  case rel => exact ⟨k + 1, by omega, by go_num, ordAt_next HBr.out HG3.out HEQ.out (by omega)⟩
                  case measure => simp [intOf]; omega
    · obtain rfl : k = n := by omega
      have HF := Lib.hid (show Reads .i64 w0 al k (ordL 3 os) by unfold ordL; rw [HN.out]; exact HRr.out)
      clear hlt
      go_wp2
      go_ret
      exact ⟨_, _, rfl, HF.out, HNew.out, HBr.out⟩

end Go.Proofs.YtniefplgijpckaaGreat
