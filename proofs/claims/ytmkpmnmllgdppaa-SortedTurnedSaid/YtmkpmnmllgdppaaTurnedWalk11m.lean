/-
  The function SortedTurned returns true: in whatever order they come, the same operations leave the same items, and as many are told each. Conditions: lists of bytes as they came in.
-/
import Derived.Test.YtmkpmnmllgdppaaTurnPl11m
namespace Go.Proofs.Ytmkpmnmllgdppaa
open Go.RowKit Go.Lib

/-- Operations of one's own that grow. -/
def OGr (w : World) (os : List (Int × Int)) (i : Nat) (v : Value) (wr : World) : Prop := wr.ownsRow w.heap.size 38 2 v i (flatO (os.take i)) ∧ Below w.heap.size w wr
theorem OGr.start (w : World) (os : List (Int × Int)) : OGr w os 0 (.slice none 0 0) w := ⟨by simpa [flatO] using World.ownsRow_nil w w.heap.size 38 2, Below.refl _ _⟩
theorem OGr.next {w wr w1 : World} {os : List (Int × Int)} {i : Nat} {v v' : Value} {o : Obj} {a b : Int} (h : OGr w os i v wr) (hi : i < os.length) (he : os.getD i (0, 0) = (a, b))
    (hown : w1.ownsRow w.heap.size 38 2 v' (i + 1) (flatO (os.take i) ++ [.int .u8 a, .int .i32 b])) (hg : (wr.alloc o).grownBy w1 v.ownBlock) : OGr w os (i + 1) v' w1 := by
  refine ⟨?_, (h.2.alloc h.2.size o).grown hg (Nat.le_trans h.2.size (by simp)) (fun k e => (h.1.lt k e).1)⟩
  rw [show os.take (i + 1) = os.take i ++ [os.getD i (0, 0)] by rw [List.take_succ_eq_append_getElem hi]; simp [List.getD, hi], he, flatO_snoc]
  exact hown
theorem rev_at (os : List (Int × Int)) {j q : Nat} (h : j + q + 1 = os.length) : os.reverse.getD j (0, 0) = os.getD q (0, 0) := by
  have h1 : j < os.length := by omega
  have h2 : q < os.length := by omega
  simp [List.getD, List.getElem?_reverse h1, show os.length - 1 - j = q by omega]

section
variable {w a b : World} {F G : Nat → Prop} {p q : Nat} {m : Int} {l : List It} {bs : List Bool}
/-- A list in a walk, and a new coin. -/
theorem PrAt.ofAt (h : AtS w F p m l a) (c : Coin b (New a b) q bs) (hb : Below a.heap.size a b) : PrAt w F (New a b) (some p) q m (l, bs) b :=
  ⟨SkO.of (h.1.fresh hb), c, New.apart h.1.foot, h.2.1.trans (hb.mono h.2.1.size), h.2.2, fun g hg => Nat.le_trans h.2.1.size hg.1⟩
/-- A list aside of another one and its coin. -/
theorem AtS.aside (h : AtS w G p m l a) (hw : Wrote F a b) (ha : Apart G F) (hn : ∀ g, F g → w.heap.size ≤ g) : AtS w G p m l b := ⟨h.1.apart hw ha, h.2.1.trans (hw.below h.2.1.size hn), h.2.2⟩
end

theorem code_in (m : Int) (l : List It) (hl : (l.length : Int) ≤ m) (os : List (Int × Int)) {i : Nat} (hi : i < os.length) : 1 ≤ ((batT 3 m (vals l) os).getD i (0, 0)).1 ∧ ((batT 3 m (vals l) os).getD i (0, 0)).1 ≤ 5 := by
  rcases place_way os hi with ⟨k, hk, e⟩ | ⟨j, hj, e⟩
  · have ht := told_add (m := m) (l := l) os hl hk
    rw [e, Int.toNat_natCast] at ht
    rw [ht]
    split <;> simp
  · have ht := told_other m (vals l) os hj
    have ho := othersL_at hj
    have hc := hpC_other m ((putZ m (vals l) os).drop (minN os j)) ho.2.2
    rw [e, Int.toNat_natCast] at ht hc
    rw [ht]
    show 1 ≤ hpC _ _ _ ∧ hpC _ _ _ ≤ 5
    omega

/-- How many more are told each code by the one than by the other. -/
def difK (T U : List (Int × Int)) (k : Nat) : List Int := (List.range 6).map fun (c : Nat) => (cntC (c : Int) T k : Int) - cntC (c : Int) U k
theorem difK_length (T U : List (Int × Int)) (k : Nat) : (difK T U k).length = 6 := by simp [difK]
theorem difK_none (T U : List (Int × Int)) : difK T U 0 = List.replicate 6 0 := by simp [difK, cntC, List.replicate]; rfl
theorem difK_at (T U : List (Int × Int)) (k : Nat) {c : Nat} (h : c < 6) : (difK T U k).getD c 0 = (cntC c T k : Int) - cntC c U k := by simp [difK, List.getD, h]
theorem difK_in (T U : List (Int × Int)) (k : Nat) {c : Nat} (h : c < 6) : -(k : Int) ≤ (difK T U k).getD c 0 ∧ (difK T U k).getD c 0 ≤ k := by
  rw [difK_at T U k h]
  have h1 := cntC_le c T k
  have h2 := cntC_le c U k
  omega
theorem difK_next (T U : List (Int × Int)) (k : Nat) {c d : Nat} (_ : c < 6) (_ : d < 6) (hT : (T.getD k (0, 0)).1 = c) (hU : (U.getD k (0, 0)).1 = d) :
    ((difK T U k).set c ((difK T U k).getD c 0 + 1)).set d (((difK T U k).set c ((difK T U k).getD c 0 + 1)).getD d 0 - 1) = difK T U (k + 1) := by
  refine List.ext_getElem (by simp [difK]) fun i h1 h2 => ?_
  have hi : i < 6 := by simpa [difK] using h2
  have eN : (difK T U (k + 1))[i]'h2 = (cntC (i : Int) T (k + 1) : Int) - cntC (i : Int) U (k + 1) := by simp [difK]
  have eO : (difK T U k)[i]'(by rw [difK_length]; exact hi) = (cntC (i : Int) T k : Int) - cntC (i : Int) U k := by simp [difK]
  have eD := difK_at T U k (c := d) (by assumption)
  have eC := difK_at T U k (c := c) (by assumption)
  refine Eq.trans ?_ eN.symm
  rw [cntC, cntC, hT, hU]
  by_cases h3 : d = i
  · subst h3
    by_cases h4 : c = d
    · subst h4
      simp only [List.getElem_set_self, List.getD_eq_getElem?_getD, List.getElem?_set_self (show c < (difK T U k).length by rw [difK_length]; omega), Option.getD_some] at *
      rw [eC]
      first | (simp; omega) | simp
    · simp only [List.getElem_set_self, List.getD_eq_getElem?_getD, List.getElem?_set_ne h4] at *
      rw [eD]
      have hne : ¬ (c : Int) = (d : Int) := by omega
      first | (simp [hne]; omega) | simp [hne]
  · rw [List.getElem_set_ne h3]
    have hne : ¬ (d : Int) = (i : Int) := by omega
    by_cases h4 : c = i
    · subst h4
      rw [List.getElem_set_self, eC]
      first | (simp [hne]; omega) | simp [hne]
    · rw [List.getElem_set_ne h4, eO]
      have hne2 : ¬ (c : Int) = (i : Int) := by omega
      simp [hne, hne2]

theorem difK_zero {T U : List (Int × Int)} {k : Nat} (h : ∀ c, cntC c T k = cntC c U k) : difK T U k = List.replicate 6 0 := by
  refine List.ext_getElem (by simp [difK]) fun i h1 h2 => ?_
  rw [List.getElem_replicate]
  simp [difK, h]
theorem rep_zero (n k : Nat) (h : k < n) : (List.replicate n (0 : Int)).getD k 0 = 0 := by rw [List.getD_eq_getElem?_getD, List.getElem?_replicate, if_pos h]; rfl
/-- In the third loop: the row of the differences. -/
def DifAt (w9 : World) (gc : Nat) (T U : List (Int × Int)) (k : Nat) (wr : World) : Prop := Rw wr gc .i64 3 (difK T U k) ∧ Wrote (fun x => x = gc) w9 wr
/-- Two lists that are filled alike. -/
def FillAt (w : World) (p q : Nat) (m : Int) (xs : List Int) (k : Nat) (wr : World) : Prop := ∃ F G, TwoS w F G p q m m (fillI m 1 xs k) (fillI m 1 xs k) wr

set_option maxRecDepth 100000 in
set_option maxHeartbeats 32000000 in
theorem turnedWalk {w : World} (x : Int) (al : Option Addr) (nl cl : Nat) (xs : List Int) (ab : Option Addr) (nb cb : Nat) (ys : List Int) (x0 : 0 ≤ x) (x1 : x ≤ 255) (hx : ArgBytes w al nl cl xs) (hnl : nl ≤ 140737488351232) (hy : ArgBytes w ab nb cb ys) (hnb : nb ≤ 140737488351232) :
    Calls Try.prog 7 #[.int .u8 x, .slice al nl cl, .slice ab nb cb] w fun e w' => e = .returned (.bool true) ∧ Below w.heap.size w w' := by
  obtain ⟨i0, hi, hz0, hz1, hz2⟩ := info_parts infoOp
  obtain ⟨j0, hj, hy0, hy1, hy2⟩ := info_parts infoInt
  obtain ⟨m, hm⟩ : ∃ m, x % 15 = m := ⟨_, rfl⟩
  have hm0 : 0 ≤ m ∧ m ≤ 14 := by omega
  have hmo := mostOf_self m hm0.1 (by omega)
  have hmt : x.tmod 15 = m := by rw [Int.tmod_eq_emod_of_nonneg x0]; exact hm
  clear hm
  have hln := opsL_len 3 xs
  have C := opsAny w al nl cl xs 3 hx.1 hx.2.2.2 (by omega) (by omega) (by omega)
  clear hx
  have HY := Lib.hid hy
  clear hy
  generalize opsL 3 xs = os at *
  obtain ⟨n, hn⟩ : ∃ n, os.length = n := ⟨_, rfl⟩
  have HLO := Lib.hid hn
  have hn80 : n ≤ 80 := by omega
  clear hln
  go_enter Try.func7, Try.ntmps7
  go_wp2_with fail
  refine C.mono ?_
  clear C
  rintro e w1 ⟨ao, cap, rfl, o1, _, b1⟩
  rw [hn] at o1 ⊢
  clear hn
  have HB1 := Lib.hid b1
  have HO1 := Lib.hid o1
  have HS := Lib.hid (OGr.start w1 os.reverse)
  clear b1 o1
  go_wp2_with fail
  go_loopw [8, 9] (fun v k wr => ∃ (j : Nat) (z : Int), j ≤ n ∧ k = .int .i64 z ∧ z = (n : Int) - 1 - j ∧ OGr w1 os.reverse j v wr) (fun _ k _ => (intOf k + 1).toNat)
  case atStart => exact ⟨0, _, Nat.zero_le _, rfl, by omega, HS.out⟩
  case round =>
    obtain ⟨j, z, hjn, rfl, hz, hr⟩ := hrel
    clear HS
    by_cases hlt : j < n
    · obtain ⟨q, rfl⟩ : ∃ q : Nat, z = q := ⟨z.toNat, by omega⟩
      obtain ⟨b, off, rfl, bl, hc⟩ := (HO1.out.keep hr.2).2 (by omega)
      have hqn : q < n := by omega
      obtain ⟨y0, y1⟩ := hc q hqn
      have q0 : (0 : Int) ≤ (q : Int) := by omega
      have q1 : (q : Int) < n := by omega
      have er := rev_at os (j := j) (q := q) (by rw [HLO.out]; omega)
      obtain ⟨kd, hkd⟩ : ∃ x, (os.getD q (0, 0)).1 = x := ⟨_, rfl⟩
      obtain ⟨kv, hkv⟩ : ∃ x, (os.getD q (0, 0)).2 = x := ⟨_, rfl⟩
      have HE := Lib.hid (show os.reverse.getD j (0, 0) = (kd, kv) by rw [er, ← hkd, ← hkv])
      rw [hkd] at y0
      rw [hkv] at y1
      have HQ := Lib.hid hr
      have HZ := Lib.hid hz
      clear hr hc er hkd hkv hz
      go_wp2_with (at_builtin; refine wpList_append_own _ rfl (.tmp 28) (.tmp 33) 23 rfl w1.heap.size 38 i0 _ 2 8 Try.underlying23 hi hz0 hz1 hz2 rfl (by decide) _ j _ rfl (HQ.out.1.alloc _) ⟨wr.heap.size, 0, none⟩ 1 1 [.int .u8 kd, .int .i32 kv] rfl rfl (op_cells wr _ _ _) (op_one _ _) (by simp only [maxLen]; omega) (by omega) (Nat.le_trans HQ.out.2.size (by simp)) ?_; intro v' w2 q2 g2 _; have HG := Lib.hid (HQ.out.next (by rw [List.length_reverse, HLO.out]; omega) HE.out q2 g2); clear q2 g2)
      go_roundw
      case rel => exact ⟨j + 1, (q : Int) - 1, by omega, by go_num, by have := HZ.out; omega, HG.out⟩
      case measure => simp [intOf]
    · obtain rfl : n = j := by omega
      have hneg : z < 0 := by omega
      have hge : ¬ 0 ≤ z := by omega
      have hr1 := hr.1
      rw [List.take_of_length_le (by rw [List.length_reverse, HLO.out]; exact Nat.le_refl _)] at hr1
      obtain ⟨ab2, cap2, e2, o2, _⟩ := opsAt_own hr1
      subst e2
      have HO2 := Lib.hid (HO1.out.keep hr.2)
      have HP2 := Lib.hid o2
      have HB2 := Lib.hid (HB1.out.trans (hr.2.mono HB1.out.size))
      have hlr : (batT 3 m ([] : List Int) os.reverse).length = n := by rw [batT_length, List.length_reverse]; exact HLO.out
      clear hr hr1 o2 hlt hz hlr
      generalize wr = w2 at *
      go_wp2_with fail
      refine (newS _ w2).mono ?_
      rintro e w3 ⟨rfl, s3, bl3⟩
      rw [hmo] at s3
      go_wp2_with fail
      refine (newS _ w3).mono ?_
      rintro e w4 ⟨rfl, s4, bl4⟩
      rw [hmo] at s4
      have A3 := AtS.new s3 bl3
      have T4 : TwoS w2 (New w2 w3) (New w3 w4) w2.heap.size w3.heap.size m m [] [] w4 := ⟨A3.fresh bl4, (A3.copied s4 bl4).1, (A3.copied s4 bl4).2⟩
      have HY4 := Lib.hid (HY.out.1.keep (HB2.out.trans (T4.c.2.1.mono HB2.out.size)))
      have HS := Lib.hid (show FillAt w2 w2.heap.size w3.heap.size m ys 0 w4 from ⟨_, _, T4⟩)
      have HBW := Lib.hid (HB2.out.trans (T4.c.2.1.mono HB2.out.size))
      clear A3 T4 s3 s4 bl3 bl4
      generalize hpp : w2.heap.size = p at *
      have HPP := Lib.hid hpp
      clear hpp
      generalize w3.heap.size = q at *
      by_cases h60 : 60 < (nb : Int)
      · go_wp2_with fail
        refine (known w4).mono ?_
        rintro e w5 ⟨rfl, b5⟩
        have HB5 := Lib.hid (HBW.out.trans (b5.mono HBW.out.size))
        clear b5
        go_wp2
        go_ret
        exact ⟨rfl, HB5.out⟩
      · have h60b : nb ≤ 60 := by omega
        go_wp2_with fail
        go_loopw [13] (fun i wr => ∃ k : Nat, k ≤ nb ∧ i = .int .i64 k ∧ FillAt w2 p q m ys k wr) (fun i _ => nb - (intOf i).toNat)
        case atStart => exact ⟨0, Nat.zero_le _, rfl, HS.out⟩
        case round =>
          obtain ⟨k, hk, rfl, F, G, hT⟩ := hrel
          clear HS
          by_cases hlt : k < nb
          · obtain ⟨b, off, rfl, bl, hc⟩ := (HY.out.1.keep (HB2.out.trans (hT.c.2.1.mono HB2.out.size))).2 (by omega)
            have c := hc k hlt
            have hb := byte_at HY.out.2.2.2 k
            obtain ⟨yk, hyk⟩ : ∃ yk, ys.getD k 0 = yk := ⟨_, rfl⟩
            rw [hyk] at c hb
            have HYK := Lib.hid hyk
            have C := Lib.hid (insertS hT.c.1 yk 1)
            have HT := Lib.hid hT
            have e1 : IntKind.i32.wrap yk = yk := by rw [IntKind.wrap_i32]; omega
            have i1 : (k : Int) < nb := by omega
            have HBL := Lib.hid (And.intro bl hc)
            clear hc hyk hT bl
            go_wp2_with fail
            refine C.out.mono ?_
            rintro e w5 ⟨rfl, d⟩
            obtain ⟨F5, T5⟩ := HT.out.nextC d
            have cW := (HY.out.1.keep (HB2.out.trans (T5.c.2.1.mono HB2.out.size))).2 (by omega)
            obtain ⟨b', off', eb, _, hc'⟩ := cW
            simp only [Option.some.injEq, Addr.mk.injEq, and_true] at eb
            obtain ⟨rfl, rfl⟩ := eb
            have c := hc' k hlt
            rw [HYK.out] at c
            have C2 := Lib.hid (insertS T5.d.1 yk 1)
            have HT5 := Lib.hid T5
            clear hc' T5 d C HT HBL
            go_wp2_with fail
            refine C2.out.mono ?_
            rintro e w6 ⟨rfl, d⟩
            obtain ⟨G6, T6⟩ := HT5.out.nextD d
            have HN := Lib.hid (show FillAt w2 p q m ys (k + 1) w6 from ⟨F5, G6, by unfold fillI; rw [HYK.out]; exact T6⟩)
            clear T6 d C2 HT5 c
            go_wp2
            go_roundw
            case rel => exact ⟨k + 1, by omega, by go_num, HN.out⟩
            case measure => simp [intOf]; omega
          · obtain rfl : nb = k := by omega
            clear hlt
            obtain ⟨lk, hlk⟩ : ∃ lk, fillI m 1 ys nb = lk := ⟨_, rfl⟩
            rw [hlk] at hT
            clear hlk
            have hLm := hT.c.1.len
            have HT := Lib.hid hT
            clear hT
            generalize wr = wf at *
            go_wp2_with fail
            refine (newC wf).mono ?_
            rintro e w5 ⟨rfl, c5, b5⟩
            have P5 := PrAt.ofAt HT.out.c c5 b5
            have HP5 := Lib.hid P5
            have HF5 := Lib.hid b5.size
            have hoff := P5.old (ao := ao) (n := n) (fun hp y hy => .inl (opsOld HO2.out hp y hy))
            have C := applyAny P5.sk P5.co P5.ap ao n cap os (HO2.out.keep P5.b) hoff.1 hoff.2 (by omega)
            have HD5 := Lib.hid (HT.out.d.fresh b5)
            have HAN := Lib.hid (show Apart G (fun g => F g ∨ New wf w5 g) from fun g h1 h2 => by
              rcases h2 with h | h
              · exact HT.out.ap g h h1
              · have := HT.out.d.lt g h1; have := h.1; omega)
            clear P5 c5 b5 hoff
            go_wp2_with fail
            refine C.mono ?_
            clear C
            rintro e w6 hp
            obtain ⟨g1, F6, G6, rfl, rg1, hg1, P6, nF1, nG1, wr6, lF6, lG6⟩ := HP5.out.post hp
            rw [HLO.out]
            have t6 := HD5.out.aside wr6 HAN.out (fun g hg => hg.elim (HP5.out.nF g) (HP5.out.nG g))
            have a6 : Apart F6 G := lF6.apart HT.out.ap (fun g hg => HD5.out.lt g hg)
            have ng1 : ¬ G g1 := fun e => by have := HD5.out.lt _ e; omega
            have hl1 := rg1.lt
            have HK6 := Lib.hid (And.intro P6 (And.intro t6 (And.intro a6 (And.intro rg1 (And.intro ng1 hl1)))))
            clear hp rg1 hg1 P6 nF1 nG1 wr6 lF6 lG6 t6 a6 ng1 hl1 HP5 HD5 HAN
            go_wp2_with fail
            refine (newC w6).mono ?_
            rintro e w7 ⟨rfl, c7, b7⟩
            have P7 := PrAt.ofAt HK6.out.2.1 c7 b7
            have HP7 := Lib.hid P7
            have HB7 := Lib.hid b7
            have hoff := P7.old (ao := ab2) (n := n) (fun hp y hy => .inl (opsOld HP2.out hp y hy))
            have C := applyAny P7.sk P7.co P7.ap ab2 n cap2 os.reverse (HP2.out.keep P7.b) hoff.1 hoff.2 (by omega)
            clear P7 c7 b7 hoff
            go_wp2_with fail
            refine C.mono ?_
            clear C
            rintro e w8 hp
            obtain ⟨g2, F8, G8, rfl, rg2, hg2, P8, _, _, wr8, _, _⟩ := HP7.out.post hp
            rw [List.length_reverse, HLO.out]
            have hs7 := HB7.out.size
            have hlt6 := HK6.out.2.2.2.2.2
            have s8 : Skip w8 F6 p m (batS m (lk, []) os).1 := (HK6.out.1.sk.2.fresh HB7.out).apart wr8 (fun g h1 h2 => by
              rcases h2 with h | h
              · exact HK6.out.2.2.1 g h1 h
              · have := HK6.out.1.sk.1 g h1; have := h.1; omega)
            have rg1 : RRow w8 g1 (batT 3 m (vals lk) os) := (wr8.block g1 (by omega) (fun e => by
              rcases e with h | h
              · exact HK6.out.2.2.2.2.1 h
              · have := h.1; omega)).trans (HK6.out.2.2.2.1.below HB7.out)
            have HK8 := Lib.hid (And.intro s8 (And.intro P8 (And.intro rg1 rg2)))
            clear hp rg2 hg2 P8 wr8 s8 rg1 HK6 HP7 hs7 hlt6 HB7
            have HTT := Lib.hid (And.intro (fun (i : Nat) (hi : i < n) => code_in m lk hLm os (i := i) (by rw [HLO.out]; exact hi)) (And.intro (fun (i : Nat) (hi : i < n) => code_in m lk hLm os.reverse (i := i) (by rw [List.length_reverse, HLO.out]; exact hi)) (And.intro (show (batT 3 m (vals lk) os).length = n by rw [batT_length]; exact HLO.out) (show (batT 3 m (vals lk) os.reverse).length = n by rw [batT_length, List.length_reverse]; exact HLO.out))))
            have HZ0 := Lib.hid (show difK (batT 3 m (vals lk) os) (batT 3 m (vals lk) os.reverse) n = List.replicate 6 0 from difK_zero (fun c => by
              have := cnt_turned c m (vals lk) (List.reverse_perm os)
              rw [HLO.out] at this
              exact this.symm))
            have HIT := Lib.hid (And.intro (batS_vals m (lk, ([] : List Bool)) os) ((batS_vals m (lk, ([] : List Bool)) os.reverse).trans (batZ_turned m (vals lk) (List.reverse_perm os))))
            generalize batT 3 m (vals lk) os = T1 at *
            generalize batT 3 m (vals lk) os.reverse = T2 at *
            generalize batS m (lk, []) os = S1 at *
            generalize batS m (lk, []) os.reverse = S2 at *
            go_upto_region 20 with (at_make; refine wpList_make_full _ rfl _ _ 46 rfl w8.heap.size 3 j0 _ 1 Try.underlying46 hj hy0 hy1 .i64 .i64 _ _ 6 rfl rfl rfl rfl (by rw [hy2]; omega) (by simp only [maxLen]; omega) (Nat.le_refl _) ?_; intro w9 hown9 hgrow9; have HM := Lib.hid (madeRow (k := .i64) hown9 hgrow9); clear hown9 hgrow9)
            have ha : g1 < w8.heap.size := HK8.out.2.2.1.lt
            have hb : g2 < w8.heap.size := HK8.out.2.2.2.lt
            have HW9 := Lib.hid (show Below w.heap.size w w9 from HB2.out.trans ((HK8.out.2.1.b.trans (HM.out.2.mono HK8.out.2.1.b.size)).mono HB2.out.size))
            have HWB := Lib.hid (show w.heap.size ≤ w8.heap.size from by have := HB2.out.size; have := HK8.out.2.1.b.size; omega)
            have HK9 := Lib.hid (And.intro (HK8.out.1.fresh HM.out.2) (And.intro (HK8.out.2.1.fresh HM.out.2).sk.2 (And.intro (HK8.out.2.2.1.below HM.out.2) (HK8.out.2.2.2.below HM.out.2))))
            have HNS := Lib.hid (And.intro (show ∀ g, F6 g → g ≠ w8.heap.size from fun g hg => by have := HK8.out.1.foot g hg; omega) (show ∀ g, F8 g → g ≠ w8.heap.size from fun g hg => by have := HK8.out.2.1.sk.1 g hg; omega))
            have HS := Lib.hid (show DifAt w9 w8.heap.size T1 T2 0 w9 from ⟨by rw [difK_none]; exact HM.out.1, Wrote.refl _ _⟩)
            clear HM HK8
            generalize w8.heap.size = gc at *
            go_wp2_with fail
            go_loopw [17] (fun i wr => ∃ k : Nat, k ≤ n ∧ i = .int .i64 k ∧ DifAt w9 gc T1 T2 k wr) (fun i _ => n - (intOf i).toNat)
            case atStart => exact ⟨0, Nat.zero_le _, rfl, HS.out⟩
            case round =>
              obtain ⟨k, hk, rfl, hr, hw⟩ := hrel
              clear HS
              by_cases hlt : k < n
              · have hTl := HTT.out.2.2
                have r1 : RRow wr g1 T1 := (hw.block g1 HK9.out.2.2.1.lt (show ¬ g1 = gc by omega)).trans HK9.out.2.2.1
                have r2 : RRow wr g2 T2 := (hw.block g2 HK9.out.2.2.2.lt (show ¬ g2 = gc by omega)).trans HK9.out.2.2.2
                obtain ⟨c0, _⟩ := r1.cells (i := k) (by omega)
                obtain ⟨c, hc⟩ : ∃ c : Nat, (T1.getD k (0, 0)).1 = c := ⟨((T1.getD k (0, 0)).1).toNat, by have := HTT.out.1 k hlt; omega⟩
                obtain ⟨d, hd⟩ : ∃ d : Nat, (T2.getD k (0, 0)).1 = d := ⟨((T2.getD k (0, 0)).1).toNat, by have := HTT.out.2.1 k hlt; omega⟩
                have hc6 : c < 6 := by have := HTT.out.1 k hlt; omega
                have hd6 : d < 6 := by have := HTT.out.2.1 k hlt; omega
                have HNx := Lib.hid (difK_next T1 T2 k hc6 hd6 hc hd)
                have hin := difK_in T1 T2 k hc6
                have hdl := difK_length T1 T2 k
                have hcm : ((c : Nat) : Int).tmod 6 = c := by rw [Int.tmod_eq_emod_of_nonneg (by omega)]; omega
                have hdm : ((d : Nat) : Int).tmod 6 = d := by rw [Int.tmod_eq_emod_of_nonneg (by omega)]; omega
                have e0 := hr.cell (i := c) (by omega)
                have fz := hr.free
                rw [hc] at c0
                have HR2 := Lib.hid (And.intro r2 hd)
                have hbd : -80 ≤ (difK T1 T2 k).getD c 0 ∧ (difK T1 T2 k).getD c 0 ≤ 80 := by omega
                have HPut := Lib.hid (hr.set c ((difK T1 T2 k).getD c 0 + 1))
                have hdn : -81 ≤ ((difK T1 T2 k).set c ((difK T1 T2 k).getD c 0 + 1)).getD d 0 ∧ ((difK T1 T2 k).set c ((difK T1 T2 k).getD c 0 + 1)).getD d 0 ≤ 81 := by
                  have h2 := difK_in T1 T2 k hd6
                  by_cases hcd : c = d
                  · subst hcd
                    rw [List.getD_eq_getElem?_getD, List.getElem?_set_self (by omega)]
                    simp only [Option.getD_some]
                    omega
                  · rw [List.getD_eq_getElem?_getD, List.getElem?_set_ne hcd, ← List.getD_eq_getElem?_getD]
                    omega
                have i1 : (k : Int) < n := by omega
                have HWr := Lib.hid hw
                clear hTl r1 r2 hc hd hr hw hin
                generalize (difK T1 T2 k).getD c 0 = v at *
                go_upto_region 26 with (fail)
                have hW2 : Wrote (fun x => x = gc) w9 (wr.setCell ⟨gc, c, none⟩ (.int .i64 (v + 1))) := HWr.out.trans (wrote1 wr gc c _)
                have r2 : RRow (wr.setCell ⟨gc, c, none⟩ (.int .i64 (v + 1))) g2 T2 := ((wrote1 wr gc c (.int .i64 (v + 1))).block g2 HR2.out.1.lt (show ¬ g2 = gc by omega)).trans HR2.out.1
                have HW2 := Lib.hid hW2
                clear c0 e0 fz
                generalize wr.setCell ⟨gc, c, none⟩ (.int .i64 (v + 1)) = wm at *
                obtain ⟨d0, _⟩ := r2.cells (i := k) (by rw [HTT.out.2.2.2]; exact hlt)
                rw [HR2.out.2] at d0
                have e1 := HPut.out.cell (i := d) (by rw [List.length_set]; omega)
                have fz := HPut.out.free
                have HPut2 := Lib.hid (HPut.out.set d (((difK T1 T2 k).set c (v + 1)).getD d 0 - 1))
                rw [HNx.out] at HPut2
                clear r2 hW2 HPut HR2 HWr hdl
                generalize ((difK T1 T2 k).set c (v + 1)).getD d 0 = u at *
                have HQ := Lib.hid (show DifAt w9 gc T1 T2 (k + 1) (wm.setCell ⟨gc, d, none⟩ (.int .i64 (u - 1))) from ⟨HPut2.out, HW2.out.trans (wrote1 wm gc d _)⟩)
                clear HPut2 HW2 HNx
                go_wp2
                go_roundw
                case rel => exact ⟨k + 1, by omega, by go_num, HQ.out⟩
                case measure => simp [intOf]; omega
              · obtain rfl : n = k := by omega
                clear hlt
                rw [HZ0.out] at hr
                have HRC := Lib.hid hr
                have HWC := Lib.hid hw
                have HS := Lib.hid (Below.refl wr.heap.size wr)
                clear hr hw
                generalize wr = wc at *
                go_wp2_with fail
                go_loopw [18] (fun i wr => ∃ k : Nat, k ≤ 6 ∧ i = .int .i64 k ∧ Below wc.heap.size wc wr) (fun i _ => 6 - (intOf i).toNat)
                case atStart => exact ⟨0, Nat.zero_le _, rfl, HS.out⟩
                case round =>
                  obtain ⟨k, hk, rfl, hbe⟩ := hrel
                  clear HS
                  by_cases hlt : k < 6
                  · have e0 := (HRC.out.below hbe).cell (i := k) (by simp; exact hlt)
                    rw [rep_zero 6 k hlt] at e0
                    have i1 : (k : Int) < 6 := by omega
                    have HB6 := Lib.hid hbe
                    clear hbe
                    go_wp2
                    go_roundw
                    case rel => exact ⟨k + 1, by omega, by go_num, HB6.out⟩
                    case measure => simp [intOf]; omega
                  · obtain rfl : k = 6 := by omega
                    clear hlt
                    have HBE := Lib.hid hbe
                    have s1 := (HK9.out.1.apart HWC.out (fun g h e => HNS.out.1 g h e)).fresh hbe
                    have s2 := (HK9.out.2.1.apart HWC.out (fun g h e => HNS.out.2 g h e)).fresh hbe
                    have HSS := Lib.hid (And.intro s1 s2)
                    have hW := HW9.out.trans ((HWC.out.below (B := w.heap.size) HW9.out.size (fun g e => by have := HWB.out; have e : g = gc := e; omega)))
                    have HWW := Lib.hid (hW.trans (hbe.mono hW.size))
                    clear hbe s1 s2 hW
                    generalize wr = we at *
                    go_wp2_with fail
                    refine (known we).mono ?_
                    rintro e wA ⟨rfl, bA⟩
                    have HSA := Lib.hid (And.intro (HSS.out.1.fresh bA) (HSS.out.2.fresh bA))
                    have HWA := Lib.hid (HWW.out.trans (bA.mono HWW.out.size))
                    clear bA
                    have C := itemsR HSA.out.1
                    rw [show S1.1.map It.v = batZ 3 m (vals lk) os from HIT.out.1] at C
                    have hzl : (batZ 3 m (vals lk) os).length ≤ 1000 := by
                      have h1 := HSA.out.1.len
                      have h2 := congrArg List.length HIT.out.1
                      rw [vals_length] at h2
                      have h3 : (batZ 3 m (vals (lk, ([] : List Bool)).1) os).length = (batZ 3 m (vals lk) os).length := rfl
                      omega
                    go_wp2_with fail
                    refine C.mono ?_
                    clear C
                    rintro e wB ⟨a1, k1, rfl, r1, _, _, bB⟩
                    have C := itemsR (HSA.out.2.fresh bB)
                    rw [show S2.1.map It.v = batZ 3 m (vals lk) os from HIT.out.2] at C
                    have HR1 := Lib.hid r1
                    have HWB2 := Lib.hid (HWA.out.trans (bB.mono HWA.out.size))
                    clear r1 bB
                    go_wp2_with fail
                    refine C.mono ?_
                    clear C
                    rintro e wC ⟨a2, k2, rfl, r2, _, _, bC⟩
                    have C := sameEq wC a1 a2 _ k1 k2 _ (HR1.out.keep bC) r2 hzl
                    have HWC2 := Lib.hid (HWB2.out.trans (bC.mono HWB2.out.size))
                    clear r2 bC
                    go_wp2_with fail
                    refine C.mono ?_
                    clear C
                    rintro e wD ⟨rfl, bD⟩
                    have HWD := Lib.hid (HWC2.out.trans (bD.mono HWC2.out.size))
                    clear bD
                    go_wp2
                    go_ret
                    exact ⟨rfl, HWD.out⟩

end Go.Proofs.Ytmkpmnmllgdppaa
