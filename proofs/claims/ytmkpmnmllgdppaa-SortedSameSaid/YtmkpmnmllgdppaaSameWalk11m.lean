/-
  The function SortedSame returns true: in one go or one by one the same is told, and stays, as by definition. Conditions: lists of operations and bytes as they came in.
-/
import Derived.Test.YtmkpmnmllgdppaaKn11m
namespace Go.Proofs.Ytmkpmnmllgdppaa
open Go.RowKit Go.Lib

/-- A block aside: neither of two sets, and not new. -/
structure Asd (F G : Nat → Prop) (w : World) (b : Nat) : Prop where
  nF : ¬ F b
  nG : ¬ G b
  lt : b < w.heap.size
section
variable {F G F' G' : Nat → Prop} {a b : World} {g : Nat}
theorem Asd.next (h : Asd F G a g) (lF : Later F F' a) (lG : Later G G' a) (hs : a.heap.size ≤ b.heap.size) : Asd F' G' b g := ⟨Later.not lF h.nF h.lt, Later.not lG h.nG h.lt, Nat.lt_of_lt_of_le h.lt hs⟩
theorem Asd.later (h : Asd F G a g) (hs : a.heap.size ≤ b.heap.size) : Asd F G b g := ⟨h.nF, h.nG, Nat.lt_of_lt_of_le h.lt hs⟩
theorem Asd.block (h : Asd F G a g) (hw : Wrote (fun g => F g ∨ G g) a b) : b.heap[g]? = a.heap[g]? := hw.block g h.lt (fun e => e.elim h.nF h.nG)
/-- Made behind the list and the coin. -/
theorem PrAt.asd {w : World} {sp : Option Nat} {q : Nat} {m : Int} {s : List It × List Bool} (h : PrAt w F G sp q m s a) (hg : a.heap.size ≤ g) (hl : g < b.heap.size) : Asd F G b g := ⟨fun e => by have := h.sk.1 _ e; omega, fun e => by have := h.co.foot _ e; omega, hl⟩
end
/-- Numbers aside. -/
theorem reads_aside {F G : Nat → Prop} {a b : World} {k : IntKind} {ao : Option Addr} {n : Nat} {zs : List Int} (h : Reads k a ao n zs) (hn : ∀ x, ao = some x → ¬ F x.block ∧ ¬ G x.block) (hw : Wrote (fun g => F g ∨ G g) a b) : Reads k b ao n zs := by
  rcases Nat.eq_zero_or_pos n with h0 | h0
  · subst h0; exact ⟨h.1, fun h => by omega⟩
  · exact h.off (fun x hx hg => hg.elim (hn x hx).1 (hn x hx).2) hw

theorem batZ_le {m : Int} (hm : m ≤ 1000) (zs : List Int) (os : List (Int × Int)) (hz : zs.length ≤ 1000) : (batZ 3 m zs os).length ≤ 1000 := runZ_le hm _ _ hz

set_option maxRecDepth 100000 in
set_option maxHeartbeats 16000000 in
theorem sameAny (w : World) (x : Int) (al : Option Addr) (nl cl : Nat) (xs : List Int) (aa : Option Addr) (na ca : Nat) (os : List (Int × Int)) (ab : Option Addr) (nb cb : Nat) (ps : List (Int × Int))
    (hx : Reads .u8 w al nl xs) (hxb : ∀ z ∈ xs, 0 ≤ z ∧ z ≤ 255) (hnl : nl ≤ 200) (ha : OpsAt w aa na os) (hao : ∀ o ∈ os, OpOk o) (hna : na ≤ 200) (hb : OpsAt w ab nb ps) (hbo : ∀ o ∈ ps, OpOk o) (hnb : nb ≤ 200) :
    Calls Try.prog 12 #[.int .i64 x, .slice al nl cl, .slice aa na ca, .slice ab nb cb] w fun e w' => e = .returned (.bool true) ∧ Below w.heap.size w w' := by
  have hmo := mostOf_in x
  have HX := Lib.hid (And.intro hx hxb)
  have HA := Lib.hid (And.intro ha hao)
  have HB := Lib.hid (And.intro hb hbo)
  have HLA := Lib.hid ha.1
  have HLB := Lib.hid hb.1
  have HXO := Lib.hid (show 0 < nl → ∀ a, al = some a → a.block < w.heap.size from fun hp a e => by obtain ⟨b', o', e', l', _⟩ := hx.2 hp; rw [e'] at e; injection e with e; subst e; exact l')
  have HAO := Lib.hid (opsOld ha)
  have HBO := Lib.hid (opsOld hb)
  clear hx hxb ha hao hb hbo
  go_enter Try.func12, Try.ntmps12
  go_wp2_with fail
  refine (newS x w).mono ?_
  rintro e w1 ⟨rfl, s1, bl1⟩
  go_wp2_with fail
  refine (newC w1).mono ?_
  rintro e w2 ⟨rfl, c2, bl2⟩
  obtain ⟨m, hm⟩ : ∃ m, mostOf x = m := ⟨_, rfl⟩
  rw [hm] at s1 hmo
  have HM := Lib.hid hm
  clear hm
  have P2 := PrAt.start s1 bl1 c2 bl2
  have HP := Lib.hid P2
  have C := feedAny P2.co (cap := cl) (HX.out.1.keep P2.b) (P2.old (fun hp a e => .inl (HXO.out hp a e))).2 HX.out.2 (by omega)
  clear s1 c2 bl1 bl2 P2
  go_wp2_with fail
  refine C.mono ?_
  clear C
  rintro e w3 ⟨rfl, d3⟩
  obtain ⟨G3, P3, _, _⟩ := HP.out.coin d3
  have HP3 := Lib.hid P3
  clear d3 HP P3
  generalize feedL [] xs = bs at *
  generalize New w w1 = F at *
  have C := refBatch w3 3 x none aa 0 0 na ca [] os ⟨rfl, fun h => by omega⟩ (Nat.le_refl _) (HA.out.1.keep HP3.out.b) HA.out.2 (by omega) (by omega)
  rw [HM.out] at C
  go_wp2_with fail
  refine C.mono ?_
  clear C
  rintro e w4 ⟨a1, c1, b1, rfl, r1, rr1, bl4, hc1, hb1, hn1⟩
  rw [HLA.out]
  have hz1 : (batZ 3 m [] os).length ≤ 1000 := batZ_le hmo.2 _ _ (by simp)
  have HZ1 := Lib.hid (show batZ 3 m [] os = vals (batS m ([], bs) os).1 from (batS_vals m ([], bs) os).symm)
  obtain ⟨Z1, hZ1⟩ : ∃ Z, batZ 3 m [] os = Z := ⟨_, rfl⟩
  rw [hZ1] at r1 hc1 hz1 HZ1 ⊢
  have HP4 := Lib.hid (HP3.out.fresh bl4)
  have HR1 := Lib.hid (And.intro r1 (And.intro rr1 (And.intro hb1 hn1)))
  have HS4 := Lib.hid bl4.size
  have C := refBatch w4 3 x a1 ab Z1.length c1 nb cb Z1 ps r1 hc1 (HB.out.1.keep HP4.out.b) HB.out.2 hz1 (by omega)
  rw [HM.out] at C
  clear r1 rr1 bl4 hb1 hn1 hZ1
  go_wp2_with fail
  refine C.mono ?_
  clear C
  rintro e w5 ⟨a2, c2, b2, rfl, r2, rr2, bl5, hc2, hb2, hn2⟩
  rw [HLB.out]
  have HP5 := Lib.hid (HP4.out.fresh bl5)
  have hz2 : (batZ 3 m Z1 ps).length ≤ 1000 := batZ_le hmo.2 _ _ hz1
  have hs5 := bl5.size
  have hs4 := HS4.out
  have A1 : Asd F G3 w5 b1 := HP3.out.asd HR1.out.2.2.1 (Nat.lt_of_lt_of_le HR1.out.2.1.lt hs5)
  have A2 : Asd F G3 w5 b2 := HP3.out.asd (Nat.le_trans hs4 hb2) rr2.lt
  have N2 : ∀ y, a2 = some y → w3.heap.size ≤ y.block := fun y hy => by
    rcases hn2 y hy with h | h
    · omega
    · rcases HR1.out.2.2.2 y h with h | h
      · exact h
      · cases h
  have HZ2 := Lib.hid (show batZ 3 m Z1 ps = vals (batS m (batS m ([], bs) os) ps).1 by rw [HZ1.out]; exact (batS_vals m _ ps).symm)
  obtain ⟨Z2, hZ2⟩ : ∃ Z, batZ 3 m Z1 ps = Z := ⟨_, rfl⟩
  rw [hZ2] at r2 hc2 hz2 HZ2 ⊢
  have HK := Lib.hid (And.intro r2 (And.intro rr2 (And.intro (HR1.out.2.1.below bl5) (And.intro N2 (And.intro A1 A2)))))
  have hoff := HP5.out.old (fun hp a e => .inl (HAO.out hp a e)) (n := na) (ao := aa)
  have C := applyAny HP5.out.sk HP5.out.co HP5.out.ap aa na ca os (HA.out.1.keep HP5.out.b) hoff.1 hoff.2 (by omega)
  clear r2 rr2 bl5 hb2 hn2 hZ2 hs5 hs4 N2 A1 A2 hoff HP4 HS4 hc1 hc2
  go_wp2_with fail
  refine C.mono ?_
  clear C
  rintro e w6 hp
  obtain ⟨g1, F6, G6, rfl, rg1, hg1, P6, nF1, nG1, wr6, lF6, lG6⟩ := HP5.out.post hp
  rw [HLA.out]
  have hs6 := wr6.size
  obtain ⟨r2, rr2, rr1, N2, A1, A2⟩ := HK.out
  have N5 : ∀ y, a2 = some y → ¬ F y.block ∧ ¬ G3 y.block := fun y hy => ⟨fun e => by have := HP3.out.sk.1 _ e; have := N2 y hy; omega, fun e => by have := HP3.out.co.foot _ e; have := N2 y hy; omega⟩
  have r26 : Reads .i32 w6 a2 Z2.length Z2 := reads_aside r2 N5 wr6
  have HK6 := Lib.hid (And.intro r26 (And.intro (rr2.keep (A2.block wr6)) (And.intro (rr1.keep (A1.block wr6)) (And.intro (A1.next (b := w6) lF6 lG6 hs6) (A2.next (b := w6) lF6 lG6 hs6)))))
  have HR6 := Lib.hid (And.intro rg1 (show Asd F6 G6 w6 g1 from ⟨nF1, nG1, rg1.lt⟩))
  have N6 : ∀ y, a2 = some y → 0 < Z2.length → ¬ F6 y.block ∧ ¬ G6 y.block := fun y hy hp => by
    obtain ⟨b', o', e', l', _⟩ := r2.2 hp
    have hy0 := hy
    rw [e'] at hy
    injection hy with hy
    have hb : y.block = b' := by rw [← hy]
    exact ⟨Later.not lF6 (N5 y hy0).1 (by omega), Later.not lG6 (N5 y hy0).2 (by omega)⟩
  have HN6 := Lib.hid N6
  have HP6 := Lib.hid P6
  have hoff := P6.old (fun hp a e => .inl (HBO.out hp a e)) (n := nb) (ao := ab)
  have C := plainAny P6.sk P6.co P6.ap ab nb cb ps (HB.out.1.keep P6.b) hoff.1 hoff.2 (by omega)
  clear hp rg1 hg1 P6 nF1 nG1 wr6 lF6 lG6 hs6 r2 rr2 rr1 N2 A1 A2 N5 r26 N6 hoff HK HP5 HP3
  go_wp2_with fail
  refine C.mono ?_
  clear C
  rintro e w7 hp
  obtain ⟨g2, F7, G7, rfl, rg2, hg2, P7, nF2, nG2, wr7, lF7, lG7⟩ := HP6.out.post hp
  rw [HLB.out]
  rw [← HZ1.out] at rg2
  obtain ⟨r2, rr2, rr1, A1, A2⟩ := HK6.out
  have r27 : Reads .i32 w7 a2 Z2.length Z2 := by
    rcases Nat.eq_zero_or_pos Z2.length with h0 | h0
    · exact ⟨r2.1, fun h => by omega⟩
    · exact reads_aside r2 (fun x hx => HN6.out x hx h0) wr7
  have HK7 := Lib.hid (And.intro r27 (And.intro (rr2.keep (A2.block wr7)) (And.intro rg2 P7)))
  have T1 := (rr1.keep (A1.block wr7)).ops
  have T2 := (HR6.out.1.keep (HR6.out.2.block wr7)).ops
  have hl1 : (batT 3 m ([] : List Int) os).length = na := by rw [batT_length]; exact HLA.out
  have e1 : batT 3 m (vals ([] : List It)) os = batT 3 m [] os := rfl
  rw [e1] at T2
  rw [hl1] at T1 T2
  have C := toldEq w7 (some ⟨g1, 0, none⟩) (some ⟨b1, 0, none⟩) na na na _ T2 T1 (by omega)
  clear hp rg2 hg2 P7 nF2 nG2 wr7 lF7 lG7 r2 rr2 rr1 A1 A2 r27 T1 T2 hl1 e1 HK6 HN6 HR6 HP6
  go_wp2_with fail
  refine C.mono ?_
  clear C
  rintro e w8 ⟨rfl, b8⟩
  obtain ⟨r2, rr2, rg2, P7⟩ := HK7.out
  have hl2 : (batT 3 m Z1 ps).length = nb := by rw [batT_length]; exact HLB.out
  have T1 := (rr2.below b8).ops
  have T2 := (rg2.below b8).ops
  rw [hl2] at T1 T2
  have C := toldEq w8 (some ⟨g2, 0, none⟩) (some ⟨b2, 0, none⟩) nb nb nb _ T2 T1 (by omega)
  have HK8 := Lib.hid (And.intro (r2.keep b8) (P7.fresh b8))
  clear r2 rr2 rg2 P7 hl2 T1 T2 b8 HK7
  go_wp2_with fail
  refine C.mono ?_
  clear C
  rintro e w9 ⟨rfl, b9⟩
  have HK9 := Lib.hid (And.intro (HK8.out.1.keep b9) (HK8.out.2.fresh b9))
  have C := itemsR HK9.out.2.sk.2
  rw [show (batS m (batS m ([], bs) os) ps).1.map It.v = Z2 from HZ2.out.symm] at C
  clear b9 HK8
  go_wp2_with fail
  refine C.mono ?_
  clear C
  rintro e w10 ⟨ao, cap, rfl, r10, _, _, b10⟩
  have C := sameEq w10 ao a2 Z2.length cap c2 Z2 r10 (HK9.out.1.keep b10) (by omega)
  have HB10 := Lib.hid (HK9.out.2.fresh b10).b
  clear r10 b10 HK9
  go_wp2_with fail
  refine C.mono ?_
  clear C
  rintro e w11 ⟨rfl, b11⟩
  have HB11 := Lib.hid (HB10.out.trans (b11.mono HB10.out.size))
  clear b11 HB10
  go_wp2
  go_ret
  exact ⟨rfl, HB11.out⟩

set_option maxRecDepth 100000 in
set_option maxHeartbeats 16000000 in
theorem sameWalk {w : World} (x k : Int) (al : Option Addr) (nl cl : Nat) (xs : List Int) (aa : Option Addr) (na ca : Nat) (os : List (Int × Int)) (ab : Option Addr) (nb cb : Nat) (ps : List (Int × Int)) (ac : Option Addr) (nc cc : Nat) (ys : List Int) (_ : -9223372036854775808 ≤ x) (_ : x ≤ 9223372036854775807) (k0 : 0 ≤ k) (k1 : k ≤ 255)
    (hx : ArgBytes w al nl cl xs) (hnl : nl ≤ 140737488351232) (ha : ArgOps w aa na ca os) (hna : na ≤ 140737488351232) (hb : ArgOps w ab nb cb ps) (hnb : nb ≤ 140737488351232) (hy : ArgBytes w ac nc cc ys) (hnc : nc ≤ 140737488351232) :
    Calls Try.prog 4 #[.int .i64 x, .int .u8 k, .slice al nl cl, .slice aa na ca, .slice ab nb cb, .slice ac nc cc] w fun e w' => e = .returned (.bool true) ∧ Below w.heap.size w w' := by
  have HX := Lib.hid hx
  have HA := Lib.hid ha
  have HB := Lib.hid hb
  have HY := Lib.hid hy
  clear hx ha hb hy
  by_cases h1 : 200 < (nl : Int) + na + nb + nc
  · go_enter Try.func4, Try.ntmps4
    go_wp2_with fail
    refine (known _).mono ?_
    rintro e w1 ⟨rfl, b1⟩
    have HB1 := Lib.hid b1
    clear b1
    go_wp2
    go_ret
    exact ⟨rfl, HB1.out⟩
  · go_enter Try.func4, Try.ntmps4
    go_wp2_with fail
    refine (known _).mono ?_
    rintro e w1 ⟨rfl, b1⟩
    have C := sameAny w1 x al nl cl xs aa na ca os ab nb cb ps (HX.out.1.keep b1) HX.out.2.2.2 (by omega) (HA.out.1.keep b1) HA.out.2.2.2 (by omega) (HB.out.1.keep b1) HB.out.2.2.2 (by omega)
    have HB1 := Lib.hid b1
    clear b1
    go_wp2_with fail
    refine C.mono ?_
    clear C
    rintro e w2 ⟨rfl, b2⟩
    have hb2 := HB1.out.trans (b2.mono HB1.out.size)
    have C := opsAny w2 ac nc cc ys 2 (HY.out.1.keep hb2) HY.out.2.2.2 (by omega) (by omega) (by omega)
    have HB2 := Lib.hid hb2
    clear b2 hb2 HB1
    go_wp2_with fail
    refine C.mono ?_
    clear C
    rintro e w3 ⟨ao3, cap3, rfl, o3, _, b3⟩
    have hb3 := HB2.out.trans (b3.mono HB2.out.size)
    have C := sameAny w3 (k % 9) al nl cl xs ao3 _ cap3 _ ab nb cb ps (HX.out.1.keep hb3) HX.out.2.2.2 (by omega) o3 (opsL_ok 2 ys HY.out.2.2.2 (by omega) (by omega)) (by have := opsL_len 2 ys; omega) (HB.out.1.keep hb3) HB.out.2.2.2 (by omega)
    have HB3 := Lib.hid hb3
    clear b3 hb3 HB2 o3
    go_wp2_with fail
    refine C.mono ?_
    clear C
    rintro e w4 ⟨rfl, b4⟩
    have HB4 := Lib.hid (HB3.out.trans (b4.mono HB3.out.size))
    clear b4 HB3
    go_wp2
    go_ret
    exact ⟨rfl, HB4.out⟩

end Go.Proofs.Ytmkpmnmllgdppaa
