/-
  What Apply of package sorted tells, and leaves: as one by one by the order. Conditions: a list as SkO says, a coin as Coin says, beside one another; operations that lie in memory, beside both, at most a thousand. What the holders of package object do in a batch: as what they embed. Conditions: a stack, a deque, a list as their own texts say; operations that lie in memory, beside it. Operations one behind the other, by package object, at a stack and at a deque; the holders' batches told alike. Conditions: a stack, a deque as their own texts say; operations that lie in memory, beside it, at most a million.
-/
import Derived.Test.YtkbhemaijbkpbaaGreatG1916
import Derived.Test.YtkbhemaijbkpbaaGreatG1516
import Derived.Test.YtkbhemaijbkpbaaGreatG1616
namespace Go.Proofs.YtkbhemaijbkpbaaGreat
open Go.RowKit Go.Lib

section
variable {w w' : World} {F G : Nat → Prop} {sp : Option Nat} {p q : Nat} {m : Int} {l : List It} {bs : List Bool}
/-- Batch at a list, or none. -/
theorem batchSO (h : SkO w F sp m l) (ao bo : Option Addr) (n cap k capb : Nat) (vs hs : List Int) (hv : Reads .i32 w ao n vs) (hh : Reads .i64 w bo k hs) (hF : 0 < n → Off F ao) (hG : 0 < k → Off F bo) (hn : n ≤ 1000000) (hcap : n ≤ cap) :
    Calls Tryz.prog 216 #[.pointer (ptrS sp), .slice ao n cap, .slice bo k capb] w fun e w' => ∃ g, w.heap.size ≤ g ∧ e = .returned (.slice (some ⟨g, 0, none⟩) n n) ∧ w'.heap[g]? = some (.cells ((toldB (roomOf m l vs) n).map Value.bool).toArray 4 (0, 0)) ∧ DidSO F sp m (insMany l vs hs (roomOf m l vs)) w w' := by
  cases sp with
  | none =>
    have hs := h
    obtain ⟨_, rfl, rfl⟩ := h
    have er : roomOf 0 [] vs = 0 := by unfold roomOf; split <;> simp
    refine (batchNil w ao n cap _ hn).mono fun e w' ⟨he, hb, hw⟩ => ⟨w.heap.size, Nat.le_refl _, he, by rw [er]; exact hb, ?_⟩
    rw [er]
    exact hs.did hw
  | some p =>
    refine (batchAnyIf h.2 ao bo n cap k capb vs hs hv hh hF hG hn hcap).mono fun e w' hp => ?_
    obtain ⟨g, h1, h2, h3, h4⟩ := hp
    rw [hv.1] at h2 h3
    exact ⟨g, h1, h2, h3, DidSO.of h4⟩
theorem boolCell {g k : Nat} {xs : List Bool} {t : TypeId} (h : w.heap[g]? = some (.cells (xs.map Value.bool).toArray t (0, 0))) (hk : k < xs.length) : w.cell? ⟨g, k, none⟩ = some (.bool (xs.getD k false)) := by simp [World.cell?, h, List.getD, hk]

/-- In the first loop: k of those that put have been told. -/
def AddAt (w5 : World) (b n k : Nat) (os : List (Int × Int)) (T : List (Int × Int)) (wr : World) : Prop :=
  RRow wr b (placeK (ordL 3 os) T n k) ∧ Wrote (fun g => g = b) w5 wr

theorem AddAt.next {w5 wr w2 : World} {b n k pl : Nat} {os T : List (Int × Int)} {c x : Int} (h : AddAt w5 b n k os T wr) (hb : Below wr.heap.size wr w2) (hp : ((ordL 3 os).getD k 0).toNat = pl) (ht : T.getD k (0, 0) = (c, x)) :
    RRow w2 b (placeK (ordL 3 os) T n k) ∧ AddAt w5 b n (k + 1) os T ((w2.setCell ⟨b, pl * 2, none⟩ (.int .u8 c)).setCell ⟨b, pl * 2 + 1, none⟩ (.int .i32 x)) := by
  have r2 := h.1.below hb
  refine ⟨r2, ?_, (h.2.trans (Wrote.of hb _)).trans (wrote2 w2 b _ _ _ _)⟩
  have := r2.set2 pl c x
  unfold placeK
  rw [hp, ht]
  exact this
end

section
variable {w : World} {F G : Nat → Prop} {sp : Option Nat} {p q : Nat} {m : Int} {l : List It} {bs : List Bool}

set_option maxRecDepth 100000 in
set_option maxHeartbeats 32000000 in
theorem applyAny (h : SkO w F sp m l) (c : Coin w G q bs) (ap : Apart F G) (ao : Option Addr) (n cap : Nat) (os : List (Int × Int)) (ho : OpsAt w ao n os) (hoF : 0 < n → Off F ao) (hoG : 0 < n → Off G ao) (hn : n ≤ 1000) :
    Calls Tryz.prog 213 #[.pointer (ptrS sp), .pointer (some ⟨q, 0, none⟩), .slice ao n cap] w (SrtPost w F G sp q m (l, bs) os) := by
  obtain ⟨j0, hj, hy0, hy1, hy2⟩ := info_parts infoRes
  have hroom := h.room
  have HH := Lib.hid h
  have HC := Lib.hid c
  have HA := Lib.hid ap
  have HO := Lib.hid ho
  have HOF := Lib.hid hoF
  have HOG := Lib.hid hoG
  have HL := Lib.hid ho.1
  have HLL := Lib.hid (show (addsL os).length + (othersL os).length = n by rw [parts_length]; exact ho.1)
  have CP := Lib.hid (partsAny w ao n cap os ho hn)
  clear h c ap ho hoF hoG
  obtain ⟨an, han⟩ : ∃ x, (addsL os).length = x := ⟨_, rfl⟩
  have HAN := Lib.hid han
  have han1 : an ≤ 1000 := by have := HLL.out; omega
  clear han
  go_enter Tryz.func213, Tryz.ntmps213
  go_wp2_with fail
  refine CP.out.mono ?_
  rintro e w1 ⟨va, vo, rfl, hr⟩
  obtain ⟨al, cl, e1, ra, hcl, hal⟩ := reads_own hr.a
  subst e1
  obtain ⟨bo, co, e2, ro, hco, hbo⟩ := reads_own hr.o
  subst e2
  have HB1 := Lib.hid hr.b
  have hal2 : ∀ x, al = some x → 0 < an → x.block < w1.heap.size := fun x hx hp => by
    obtain ⟨b', off, e', l', _⟩ := ra.2 (by have := HAN.out; omega)
    rw [e'] at hx; injection hx with hx; subst hx; exact l'
  have hall : ∀ x, al = some x → x.block < w1.heap.size := fun x hx => (hr.a.lt x.block (by rw [hx]; rfl)).2
  have hbol : ∀ x, bo = some x → x.block < w1.heap.size := fun x hx => (hr.o.lt x.block (by rw [hx]; rfl)).2
  have HAl := Lib.hid (show ∀ x, al = some x → w.heap.size ≤ x.block ∧ x.block < w1.heap.size from fun x hx => ⟨by have := hal x hx; omega, hall x hx⟩)
  have HBo := Lib.hid (show ∀ x, bo = some x → w.heap.size ≤ x.block ∧ x.block < w1.heap.size from fun x hx => ⟨by have := hbo x hx; omega, hbol x hx⟩)
  rw [HAN.out] at ra hcl ⊢
  have HRA := Lib.hid ra
  have HRO := Lib.hid ro
  have CV := Lib.hid (valuesAny w1 ao al n cap an cl os (addsL os) (HO.out.keep HB1.out) ra (fun x hx => by have := addsL_in hx; rw [HL.out] at this; exact ⟨this.1, this.2.1⟩) hn han1)
  clear hr ra ro hal hbo hco hal2 hall hbol CP
  obtain ⟨on, hon⟩ : ∃ x, (othersL os).length = x := ⟨_, rfl⟩
  have HON := Lib.hid hon
  rw [hon] at HRO ⊢
  have hon1 : on ≤ 1000 := by have := HLL.out; omega
  clear hon
  go_wp2_with fail
  refine CV.out.mono ?_
  rintro e w2 ⟨rfl, rv, b2⟩
  have HRV := Lib.hid rv
  have HB2 := Lib.hid b2
  have HB12 := Lib.hid (show Below w.heap.size w w2 from HB1.out.trans (b2.mono HB1.out.size))
  clear rv b2 CV
  obtain ⟨R, hR⟩ : ∃ R : Nat, m - (l.length : Int) = R := ⟨(m - l.length).toNat, by omega⟩
  have CR := roomSO (HH.out.fresh HB12.out)
  rw [hR] at CR
  have HR := Lib.hid hR
  clear hR hroom
  go_wp2_with fail
  refine CR.mono ?_
  clear CR
  rintro e w2' ⟨rfl, rfl⟩
  by_cases hmin : R ≤ an
  · have hlt : (R : Int) ≤ an := by omega
    have HRM := Lib.hid (show roomS m l os = R by unfold roomS; rw [HAN.out, HR.out]; omega)
    have hr1 : R ≤ 1000 := by omega
    clear hmin
    have CHt := Lib.hid (heightsAny (HC.out.fresh HB12.out) R hr1)
    go_wp2_with fail
    refine CHt.out.mono ?_
    rintro e w3 ⟨G1, rfl, rh, c3, nG1, wr3, lG1⟩
    have hs1 : w1.heap.size < w2.heap.size := HRV.out.lt
    have hsw : w.heap.size ≤ w1.heap.size := HB1.out.size
    have rv3 : Rw w3 w1.heap.size .i32 21 (valsL os) := HRV.out.keep (wr3.block _ hs1 (fun e => by have := HC.out.foot _ e; omega))
    have dP := DidP.right (HH.out.fresh HB12.out) HA.out ⟨G1, c3, wr3, lG1⟩
    have sk3 := (HH.out.fresh HB12.out).apart wr3 HA.out
    have apG := lG1.apart HA.out.symm (fun g hg => Nat.lt_of_lt_of_le (HH.out.1 g hg) HB12.out.size)
    have CB := batchSO sk3 (some ⟨w1.heap.size, 0, none⟩) (some ⟨w2.heap.size, 0, none⟩) an an R R (valsL os) (hgts bs R) (rv3.reads (by rw [valsL_length, HAN.out])) (rh.reads (hgts_length bs R)) (fun _ a ha e => by injection ha with ha; subst ha; have := HH.out.1 _ e; simp only at this; omega) (fun _ a ha e => by injection ha with ha; subst ha; have := HH.out.1 _ e; simp only at this; omega) (by omega) (Nat.le_refl _)
    rw [room_is, HRM.out] at CB
    have HCB := Lib.hid CB
    have HX := Lib.hid (And.intro c3 (And.intro apG (And.intro wr3 lG1)))
    clear rh c3 nG1 wr3 lG1 rv3 dP sk3 apG CB CHt hlt
    go_wp2_with fail
    refine HCB.out.mono ?_
    rintro e w4 ⟨g, hg, rfl, ht, dB⟩
    have dP := DidP.trans (HX.out.2.2.1.into (fun _ h => Or.inr h)) (Later.refl _ _) HX.out.2.2.2 (DidP.left HX.out.1 HX.out.2.1.symm dB)
    have dP1 : DidP F G sp q m (insMany l (valsL os) (hgts bs R) R, lefts bs R) w1 w4 := DidP.less HB2.out dP
    have hs3 := HX.out.2.2.1.size
    have dP2 := dP1
    obtain ⟨_, _, _, _, _, wr14, _, _⟩ := dP2
    have ra4 := ints_kept HRA.out (fun _ a ha e => by have := (HAl.out a ha).1; rcases e with e | e; (have := HH.out.1 _ e; omega); (have := HC.out.foot _ e; omega)) wr14
    have ro4 := ints_kept HRO.out (fun _ a ha e => by have := (HBo.out a ha).1; rcases e with e | e; (have := HH.out.1 _ e; omega); (have := HC.out.foot _ e; omega)) wr14
    have hs4 := wr14.size
    have HK4 := Lib.hid (And.intro dP1 (And.intro ra4 (And.intro ro4 (And.intro ht (show w1.heap.size ≤ w4.heap.size from hs4)))))
    clear dP dP1 wr14 ra4 ro4 ht dB hs3 hs4 HCB HX hs1 hsw hg
    go_upto_region 4 with (at_make; refine wpList_make_full _ rfl _ _ 69 rfl w4.heap.size 74 j0 _ 2 Tryz.underlying69 hj hy0 hy1 .i64 .i64 _ _ n rfl rfl rfl rfl (by rw [hy2]; omega) (by simp only [maxLen]; omega) (Nat.le_refl _) ?_; intro w5 hown5 hgrow5; have HM := Lib.hid (madeRes hown5 hgrow5); clear hown5 hgrow5)
    have hg4 : g < w4.heap.size := lt_of_block HK4.out.2.2.2.1
    generalize hb : w4.heap.size = b at *
    have HBB := Lib.hid hb
    have HM2 := Lib.hid (show Below w4.heap.size w4 w5 by rw [hb]; exact HM.out.2)
    clear hb
    have HS := Lib.hid (show AddAt w5 b n 0 os (runT 3 m (vals l) (ordO 3 os)) w5 from ⟨by simpa [placeK] using HM.out.1, Wrote.refl _ _⟩)
    go_wp2_with fail
    go_loopw [37] (fun i wr => ∃ k : Nat, k ≤ an ∧ i = .int .i64 k ∧ AddAt w5 b n k os (runT 3 m (vals l) (ordO 3 os)) wr) (fun i _ => an - (intOf i).toNat)
    case atStart => exact ⟨0, Nat.zero_le _, rfl, HS.out⟩
    case round =>
      obtain ⟨k, hk, rfl, hr⟩ := hrel
      clear HS
      by_cases hlt : k < an
      · have ra := ints_kept (HK4.out.2.1.keep HM2.out) (F := fun g => g = b) (fun _ a ha e => by have := (HAl.out a ha).2; have := HK4.out.2.2.2.2; omega) hr.2
        have hkA : k < (addsL os).length := by rw [HAN.out]; exact hlt
        obtain ⟨lb, lo, rfl, ll, lc⟩ := ra.2 (by omega)
        have cz := lc k hlt
        have hzb := addsL_at hkA
        have hzo : (ordL 3 os).getD k 0 = (addsL os).getD k 0 := by rw [ordL_parts]; exact getD_left _ _ _ hkA
        obtain ⟨z, hz⟩ : ∃ z, (addsL os).getD k 0 = z := ⟨_, rfl⟩
        rw [hz] at cz hzb hzo
        obtain ⟨pl, rfl⟩ : ∃ p : Nat, z = p := ⟨z.toNat, by omega⟩
        have hpn : pl < n := by have := hzb.2.1; rw [HL.out] at this; omega
        have htl : (toldB R (addsL os).length).length = an := by rw [toldB_length (by rw [← HRM.out]; unfold roomS; omega), HAN.out]
        have ct : wr.cell? ⟨g, k, none⟩ = some (.bool ((toldB R (addsL os).length).getD k false)) := by
          have h5 : w5.heap[g]? = some (.cells ((toldB R (addsL os).length).map Value.bool).toArray 4 (0, 0)) := (HM2.out.block g (by rw [HBB.out]; exact hg4)).trans (by rw [HAN.out]; exact HK4.out.2.2.2.1)
          exact boolCell ((hr.2.block g (lt_of_block h5) (show ¬ g = b by omega)).trans h5) (by rw [htl]; exact hlt)
        have htd := adds_told bs os (show (l.length : Int) ≤ m by have := HR.out; omega) hkA
        rw [HRM.out] at htd
        obtain ⟨tb, htb⟩ : ∃ x, (toldB R (addsL os).length).getD k false = x := ⟨_, rfl⟩
        rw [htb] at ct htd
        have CA := Lib.hid (addedAny wr tb)
        have HN := Lib.hid (fun (w2 : World) (hb : Below wr.heap.size wr w2) => AddAt.next (pl := pl) hr hb (by rw [hzo, Int.toNat_natCast]) htd)
        have i1 : (k : Int) < an := by omega
        have p1 : (pl : Int) < n := by omega
        clear ra hkA lc hzb hzo hz htl htd htb hr
        go_wp2_with fail
        refine CA.out.mono ?_
        rintro e w6 ⟨rfl, b6⟩
        obtain ⟨r2, hn2⟩ := HN.out w6 b6
        have HNx := Lib.hid hn2
        obtain ⟨c0, c1⟩ := r2.cells (i := pl) (by rw [placeK_length]; exact hpn)
        have fz := r2.free
        clear hn2 r2 b6 CA HN cz ct
        go_wp2
        go_roundw
        case rel => exact ⟨k + 1, by omega, by go_num, HNx.out⟩
        case measure => simp [intOf]; omega
      · obtain rfl : an = k := by omega
        clear hlt
        obtain ⟨F', G', s1, c1, a1, wA, lF, lG⟩ := HK4.out.1
        have nF : ¬ F' b := fun e => by have := s1.1 _ e; have := HBB.out; omega
        have nG : ¬ G' b := fun e => by have := c1.foot _ e; have := HBB.out; omega
        have wR : Wrote (fun g => g = b) w5 wr := hr.2
        have hA0 := adds_all bs os (show (l.length : Int) ≤ m by have := HR.out; omega)
        rw [HRM.out, HAN.out] at hA0
        have HS2 := Lib.hid (show SrtAt wr F' G' sp q m b (runS m (l, bs) ((ordO 3 os).take (an + 0))) (placeK (ordL 3 os) (runT 3 m (vals l) (ordO 3 os)) n (an + 0)) wr from
          SrtAt.start (by rw [Nat.add_zero, hA0]; exact (s1.fresh HM2.out).apart wR (fun x a e => nF (e ▸ a))) (by rw [Nat.add_zero, hA0]; exact (c1.fresh HM2.out).apart wR (fun x a e => nG (e ▸ a))) a1 hr.1 nF nG)
        have h5 := ((Wrote.of HB1.out (fun g => F g ∨ G g)).trans wA).trans (Wrote.of HM2.out _)
        have HW0 := Lib.hid (show Wrote (fun g => F g ∨ G g) w wr from 
          ⟨wR.os.trans h5.os, wR.tape.trans h5.tape, wR.output.trans h5.output, Nat.le_trans h5.size wR.size, fun x hx hne => (wR.block x (Nat.lt_of_lt_of_le hx h5.size) (fun e => by
            have e : x = b := e
            have h1 := HK4.out.2.2.2.2
            have h2 := HB1.out.size
            have h3 := HBB.out
            omega)).trans (h5.block x hx hne)⟩)
        have HSZ := Lib.hid (show w.heap.size ≤ b by have := HK4.out.2.2.2.2; have := HB1.out.size; omega)
        have HLF := Lib.hid (And.intro (show Later F F' w from fun g hg => (lF g hg).imp id (fun h => Nat.le_trans HB1.out.size h)) (show Later G G' w from fun g hg => (lG g hg).imp id (fun h => Nat.le_trans HB1.out.size h)))
        have HRO5 := Lib.hid (ints_kept (HK4.out.2.2.1.keep HM2.out) (F := fun g => g = b) (fun _ a ha e => by have := (HBo.out a ha).2; have := HK4.out.2.2.2.2; omega) wR)
        have HNO := Lib.hid (show ∀ x, bo = some x → ¬ (F' x.block ∨ G' x.block ∨ x.block = b) from fun x hx e => by
          have h1 := HBo.out x hx
          have h2 := HK4.out.2.2.2.2
          rcases e with e | e | e
          · rcases lF _ e with h | h
            · have := HH.out.1 _ h; omega
            · omega
          · rcases lG _ e with h | h
            · have := HC.out.foot _ h; omega
            · omega
          · omega)
        have HOK := Lib.hid (show OpsAt wr ao n os from by
          have h6 := ops_kept HO.out (F := fun g => F g ∨ G g) (fun hp a ha e => by
            rcases e with e | e
            · exact HOF.out hp a ha e
            · exact HOG.out hp a ha e) HW0.out
          exact h6)
        have HOO := Lib.hid (show ∀ a, 0 < n → ao = some a → ¬ (F' a.block ∨ G' a.block ∨ a.block = b) from fun a hp ha e => by
          obtain ⟨b', off, e', l', _⟩ := HO.out.2 hp
          have ha0 := ha
          rw [e'] at ha
          injection ha with ha
          have hb' : a.block = b' := by rw [← ha]
          have h2 := HK4.out.2.2.2.2
          have h3 := HB1.out.size
          rcases e with e | e | e
          · rcases lF _ e with h | h
            · exact HOF.out hp a ha0 h
            · omega
          · rcases lG _ e with h | h
            · exact HOG.out hp a ha0 h
            · omega
          · omega)
        clear s1 c1 a1 wA lF lG nF nG wR hA0 h5 hr HM HM2 HK4
        generalize wr = w6 at *
        go_wp2_with fail
        go_loopw [53] (fun i wr => ∃ j : Nat, j ≤ on ∧ i = .int .i64 j ∧ SrtAt w6 F' G' sp q m b (runS m (l, bs) ((ordO 3 os).take (an + j))) (placeK (ordL 3 os) (runT 3 m (vals l) (ordO 3 os)) n (an + j)) wr) (fun i _ => on - (intOf i).toNat)
        case atStart => exact ⟨0, Nat.zero_le _, rfl, HS2.out⟩
        case round =>
          obtain ⟨j, hj', rfl, hr⟩ := hrel
          clear HS2
          by_cases hlt : j < on
          · obtain ⟨F2, G2, s1, c1, a1, rr, nF, nG, hw, lF, lG⟩ := hr
            have hrk := ints_kept HRO5.out (fun _ a ha e => HNO.out a ha e) hw
            have hok := ops_kept HOK.out (fun hp a ha e => HOO.out a hp ha e) hw
            have hjO : j < (othersL os).length := by rw [HON.out]; exact hlt
            have hkn : an + j < n := by have := HLL.out; have := HAN.out; have := HON.out; omega
            obtain ⟨lb, lo, rfl, ll, lc⟩ := hrk.2 (by omega)
            have cz := lc j hlt
            have hzb := othersL_at hjO
            have hzo : (ordL 3 os).getD (an + j) 0 = (othersL os).getD j 0 := by rw [ordL_parts, ← HAN.out]; exact getD_at _ _ _
            have eo := ordO_other hjO
            rw [HAN.out] at eo
            obtain ⟨z, hz⟩ : ∃ z, (othersL os).getD j 0 = z := ⟨_, rfl⟩
            rw [hz] at cz hzb hzo eo
            obtain ⟨pl, rfl⟩ : ∃ p : Nat, z = p := ⟨z.toNat, by omega⟩
            have hpn : pl < n := by have := hzb.2.1; rw [HL.out] at this; omega
            obtain ⟨oo, off, rfl, bol, hc⟩ := hok.2 (by omega)
            obtain ⟨y0, y1⟩ := hc pl hpn
            obtain ⟨kd, hkd⟩ : ∃ x, (os.getD pl (0, 0)).1 = x := ⟨_, rfl⟩
            obtain ⟨kv, hkv⟩ : ∃ x, (os.getD pl (0, 0)).2 = x := ⟨_, rfl⟩
            rw [Int.toNat_natCast] at eo hzb
            have hk1 : ¬ kd = 1 := by rw [← hkd]; exact hzb.2.2
            have e1 : (ordO 3 os).getD (an + j) (0, 0) = (kd, kv) := by rw [eo, ← hkd, ← hkv]
            rw [hkd] at y0
            rw [hkv] at y1
            obtain ⟨Z, hZ⟩ : ∃ Z, (runS m (l, bs) ((ordO 3 os).take (an + j))).1 = Z := ⟨_, rfl⟩
            obtain ⟨B, hB⟩ : ∃ B, (runS m (l, bs) ((ordO 3 os).take (an + j))).2 = B := ⟨_, rfl⟩
            have hot := others_told bs os (by rw [HL.out]; exact hkn) (show runS m (l, bs) ((ordO 3 os).take (an + j)) = (Z, B) by rw [← hZ, ← hB]) e1
            rw [hZ] at s1
            rw [hB] at c1
            have CD := Lib.hid (takenAny s1 kd kv hk1)
            have HPK := Lib.hid (show placeK (ordL 3 os) (runT 3 m (vals l) (ordO 3 os)) n (an + j + 1) = (placeK (ordL 3 os) (runT 3 m (vals l) (ordO 3 os)) n (an + j)).set pl (hpC m (vals Z) kd, hpV (vals Z) kd) by
              rw [← hot.1, show pl = ((ordL 3 os).getD (an + j) 0).toNat by rw [hzo, Int.toNat_natCast]]
              rfl)
            have est : stS m (Z, B) (kd, kv) = ((if kd = 2 then Z.tail else Z), B) := by
              unfold stS
              rw [if_neg hk1]
              split <;> rfl
            have HRS := Lib.hid (hot.2.trans est)
            obtain ⟨rc, hrc⟩ : ∃ x, hpC m (vals Z) kd = x := ⟨_, rfl⟩
            obtain ⟨rv, hrv⟩ : ∃ x, hpV (vals Z) kd = x := ⟨_, rfl⟩
            rw [hrc, hrv] at CD HPK
            have HN := Lib.hid (fun (w2 : World) (d : DidSO F2 sp m (if kd = 2 then Z.tail else Z) wr w2) => SrtAt.put (i := pl) (c := rc) (x := rv) rr nF nG hw lF lG (DidP.left (m := m) c1 a1 d))
            have i1 : (j : Int) < on := by omega
            have p1 : (pl : Int) < n := by omega
            clear hrk hok lc hzb hz hzo eo hc hkd hkv e1 hZ hB hot hrc hrv s1 c1 a1 rr nF nG hw lF lG hjO est
            go_wp2_with fail
            refine CD.out.mono ?_
            rintro e w7 ⟨rfl, d⟩
            obtain ⟨r2, hn2⟩ := HN.out w7 d
            have HNx := Lib.hid hn2
            obtain ⟨c0, c1⟩ := r2.cells (i := pl) (by rw [placeK_length]; exact hpn)
            have fz := r2.free
            clear d hn2 r2 CD HN y0 y1 cz
            go_wp2
            go_roundw
            case rel => exact ⟨j + 1, by omega, by go_num, by rw [show an + (j + 1) = an + j + 1 by omega, HRS.out, HPK.out]; exact HNx.out⟩
            case measure => simp [intOf]; omega
          · obtain rfl : on = j := by omega
            have hen : an + on = n := by have := HLL.out; have := HAN.out; have := HON.out; omega
            rw [hen] at hr
            have HF := Lib.hid (SrtAt.post (w := w) (os := os) (s0 := (l, bs)) hr (by have := HBB.out; have := HW0.out.size; have := HB1.out.size; have := HSZ.out; omega) (batS_end m (l, bs) os (by rw [HL.out]; exact Nat.le_refl _)) (by unfold batT; rw [HL.out]) HW0.out HLF.out.1 HLF.out.2)
            rw [HL.out] at HF
            clear hr hlt hen
            go_wp2
            go_ret
            exact HF.out
  · have hlt : (an : Int) < R := by omega
    have HRM := Lib.hid (show roomS m l os = an by unfold roomS; rw [HAN.out, HR.out]; omega)
    have hr1 : an ≤ 1000 := by omega
    clear hmin
    have CHt := Lib.hid (heightsAny (HC.out.fresh HB12.out) an hr1)
    go_wp2_with fail
    refine CHt.out.mono ?_
    rintro e w3 ⟨G1, rfl, rh, c3, nG1, wr3, lG1⟩
    have hs1 : w1.heap.size < w2.heap.size := HRV.out.lt
    have hsw : w.heap.size ≤ w1.heap.size := HB1.out.size
    have rv3 : Rw w3 w1.heap.size .i32 21 (valsL os) := HRV.out.keep (wr3.block _ hs1 (fun e => by have := HC.out.foot _ e; omega))
    have dP := DidP.right (HH.out.fresh HB12.out) HA.out ⟨G1, c3, wr3, lG1⟩
    have sk3 := (HH.out.fresh HB12.out).apart wr3 HA.out
    have apG := lG1.apart HA.out.symm (fun g hg => Nat.lt_of_lt_of_le (HH.out.1 g hg) HB12.out.size)
    have CB := batchSO sk3 (some ⟨w1.heap.size, 0, none⟩) (some ⟨w2.heap.size, 0, none⟩) an an an an (valsL os) (hgts bs an) (rv3.reads (by rw [valsL_length, HAN.out])) (rh.reads (hgts_length bs an)) (fun _ a ha e => by injection ha with ha; subst ha; have := HH.out.1 _ e; simp only at this; omega) (fun _ a ha e => by injection ha with ha; subst ha; have := HH.out.1 _ e; simp only at this; omega) (by omega) (Nat.le_refl _)
    rw [room_is, HRM.out] at CB
    have HCB := Lib.hid CB
    have HX := Lib.hid (And.intro c3 (And.intro apG (And.intro wr3 lG1)))
    clear rh c3 nG1 wr3 lG1 rv3 dP sk3 apG CB CHt hlt
    go_wp2_with fail
    refine HCB.out.mono ?_
    rintro e w4 ⟨g, hg, rfl, ht, dB⟩
    have dP := DidP.trans (HX.out.2.2.1.into (fun _ h => Or.inr h)) (Later.refl _ _) HX.out.2.2.2 (DidP.left HX.out.1 HX.out.2.1.symm dB)
    have dP1 : DidP F G sp q m (insMany l (valsL os) (hgts bs an) an, lefts bs an) w1 w4 := DidP.less HB2.out dP
    have hs3 := HX.out.2.2.1.size
    have dP2 := dP1
    obtain ⟨_, _, _, _, _, wr14, _, _⟩ := dP2
    have ra4 := ints_kept HRA.out (fun _ a ha e => by have := (HAl.out a ha).1; rcases e with e | e; (have := HH.out.1 _ e; omega); (have := HC.out.foot _ e; omega)) wr14
    have ro4 := ints_kept HRO.out (fun _ a ha e => by have := (HBo.out a ha).1; rcases e with e | e; (have := HH.out.1 _ e; omega); (have := HC.out.foot _ e; omega)) wr14
    have hs4 := wr14.size
    have HK4 := Lib.hid (And.intro dP1 (And.intro ra4 (And.intro ro4 (And.intro ht (show w1.heap.size ≤ w4.heap.size from hs4)))))
    clear dP dP1 wr14 ra4 ro4 ht dB hs3 hs4 HCB HX hs1 hsw hg
    go_upto_region 4 with (at_make; refine wpList_make_full _ rfl _ _ 69 rfl w4.heap.size 74 j0 _ 2 Tryz.underlying69 hj hy0 hy1 .i64 .i64 _ _ n rfl rfl rfl rfl (by rw [hy2]; omega) (by simp only [maxLen]; omega) (Nat.le_refl _) ?_; intro w5 hown5 hgrow5; have HM := Lib.hid (madeRes hown5 hgrow5); clear hown5 hgrow5)
    have hg4 : g < w4.heap.size := lt_of_block HK4.out.2.2.2.1
    generalize hb : w4.heap.size = b at *
    have HBB := Lib.hid hb
    have HM2 := Lib.hid (show Below w4.heap.size w4 w5 by rw [hb]; exact HM.out.2)
    clear hb
    have HS := Lib.hid (show AddAt w5 b n 0 os (runT 3 m (vals l) (ordO 3 os)) w5 from ⟨by simpa [placeK] using HM.out.1, Wrote.refl _ _⟩)
    go_wp2_with fail
    go_loopw [37] (fun i wr => ∃ k : Nat, k ≤ an ∧ i = .int .i64 k ∧ AddAt w5 b n k os (runT 3 m (vals l) (ordO 3 os)) wr) (fun i _ => an - (intOf i).toNat)
    case atStart => exact ⟨0, Nat.zero_le _, rfl, HS.out⟩
    case round =>
      obtain ⟨k, hk, rfl, hr⟩ := hrel
      clear HS
      by_cases hlt : k < an
      · have ra := ints_kept (HK4.out.2.1.keep HM2.out) (F := fun g => g = b) (fun _ a ha e => by have := (HAl.out a ha).2; have := HK4.out.2.2.2.2; omega) hr.2
        have hkA : k < (addsL os).length := by rw [HAN.out]; exact hlt
        obtain ⟨lb, lo, rfl, ll, lc⟩ := ra.2 (by omega)
        have cz := lc k hlt
        have hzb := addsL_at hkA
        have hzo : (ordL 3 os).getD k 0 = (addsL os).getD k 0 := by rw [ordL_parts]; exact getD_left _ _ _ hkA
        obtain ⟨z, hz⟩ : ∃ z, (addsL os).getD k 0 = z := ⟨_, rfl⟩
        rw [hz] at cz hzb hzo
        obtain ⟨pl, rfl⟩ : ∃ p : Nat, z = p := ⟨z.toNat, by omega⟩
        have hpn : pl < n := by have := hzb.2.1; rw [HL.out] at this; omega
        have htl : (toldB an (addsL os).length).length = an := by rw [toldB_length (by rw [← HRM.out]; unfold roomS; omega), HAN.out]
        have ct : wr.cell? ⟨g, k, none⟩ = some (.bool ((toldB an (addsL os).length).getD k false)) := by
          have h5 : w5.heap[g]? = some (.cells ((toldB an (addsL os).length).map Value.bool).toArray 4 (0, 0)) := (HM2.out.block g (by rw [HBB.out]; exact hg4)).trans (by rw [HAN.out]; exact HK4.out.2.2.2.1)
          exact boolCell ((hr.2.block g (lt_of_block h5) (show ¬ g = b by omega)).trans h5) (by rw [htl]; exact hlt)
        have htd := adds_told bs os (show (l.length : Int) ≤ m by have := HR.out; omega) hkA
        rw [HRM.out] at htd
        obtain ⟨tb, htb⟩ : ∃ x, (toldB an (addsL os).length).getD k false = x := ⟨_, rfl⟩
        rw [htb] at ct htd
        have CA := Lib.hid (addedAny wr tb)
        have HN := Lib.hid (fun (w2 : World) (hb : Below wr.heap.size wr w2) => AddAt.next (pl := pl) hr hb (by rw [hzo, Int.toNat_natCast]) htd)
        have i1 : (k : Int) < an := by omega
        have p1 : (pl : Int) < n := by omega
        clear ra hkA lc hzb hzo hz htl htd htb hr
        go_wp2_with fail
        refine CA.out.mono ?_
        rintro e w6 ⟨rfl, b6⟩
        obtain ⟨r2, hn2⟩ := HN.out w6 b6
        have HNx := Lib.hid hn2
        obtain ⟨c0, c1⟩ := r2.cells (i := pl) (by rw [placeK_length]; exact hpn)
        have fz := r2.free
        clear hn2 r2 b6 CA HN cz ct
        go_wp2
        go_roundw
        case rel => exact ⟨k + 1, by omega, by go_num, HNx.out⟩
        case measure => simp [intOf]; omega
      · obtain rfl : an = k := by omega
        clear hlt
        obtain ⟨F', G', s1, c1, a1, wA, lF, lG⟩ := HK4.out.1
        have nF : ¬ F' b := fun e => by have := s1.1 _ e; have := HBB.out; omega
        have nG : ¬ G' b := fun e => by have := c1.foot _ e; have := HBB.out; omega
        have wR : Wrote (fun g => g = b) w5 wr := hr.2
        have hA0 := adds_all bs os (show (l.length : Int) ≤ m by have := HR.out; omega)
        rw [HRM.out, HAN.out] at hA0
        have HS2 := Lib.hid (show SrtAt wr F' G' sp q m b (runS m (l, bs) ((ordO 3 os).take (an + 0))) (placeK (ordL 3 os) (runT 3 m (vals l) (ordO 3 os)) n (an + 0)) wr from
          SrtAt.start (by rw [Nat.add_zero, hA0]; exact (s1.fresh HM2.out).apart wR (fun x a e => nF (e ▸ a))) (by rw [Nat.add_zero, hA0]; exact (c1.fresh HM2.out).apart wR (fun x a e => nG (e ▸ a))) a1 hr.1 nF nG)
        have h5 := ((Wrote.of HB1.out (fun g => F g ∨ G g)).trans wA).trans (Wrote.of HM2.out _)
        have HW0 := Lib.hid (show Wrote (fun g => F g ∨ G g) w wr from 
          ⟨wR.os.trans h5.os, wR.tape.trans h5.tape, wR.output.trans h5.output, Nat.le_trans h5.size wR.size, fun x hx hne => (wR.block x (Nat.lt_of_lt_of_le hx h5.size) (fun e => by
            have e : x = b := e
            have h1 := HK4.out.2.2.2.2
            have h2 := HB1.out.size
            have h3 := HBB.out
            omega)).trans (h5.block x hx hne)⟩)
        have HSZ := Lib.hid (show w.heap.size ≤ b by have := HK4.out.2.2.2.2; have := HB1.out.size; omega)
        have HLF := Lib.hid (And.intro (show Later F F' w from fun g hg => (lF g hg).imp id (fun h => Nat.le_trans HB1.out.size h)) (show Later G G' w from fun g hg => (lG g hg).imp id (fun h => Nat.le_trans HB1.out.size h)))
        have HRO5 := Lib.hid (ints_kept (HK4.out.2.2.1.keep HM2.out) (F := fun g => g = b) (fun _ a ha e => by have := (HBo.out a ha).2; have := HK4.out.2.2.2.2; omega) wR)
        have HNO := Lib.hid (show ∀ x, bo = some x → ¬ (F' x.block ∨ G' x.block ∨ x.block = b) from fun x hx e => by
          have h1 := HBo.out x hx
          have h2 := HK4.out.2.2.2.2
          rcases e with e | e | e
          · rcases lF _ e with h | h
            · have := HH.out.1 _ h; omega
            · omega
          · rcases lG _ e with h | h
            · have := HC.out.foot _ h; omega
            · omega
          · omega)
        have HOK := Lib.hid (show OpsAt wr ao n os from by
          have h6 := ops_kept HO.out (F := fun g => F g ∨ G g) (fun hp a ha e => by
            rcases e with e | e
            · exact HOF.out hp a ha e
            · exact HOG.out hp a ha e) HW0.out
          exact h6)
        have HOO := Lib.hid (show ∀ a, 0 < n → ao = some a → ¬ (F' a.block ∨ G' a.block ∨ a.block = b) from fun a hp ha e => by
          obtain ⟨b', off, e', l', _⟩ := HO.out.2 hp
          have ha0 := ha
          rw [e'] at ha
          injection ha with ha
          have hb' : a.block = b' := by rw [← ha]
          have h2 := HK4.out.2.2.2.2
          have h3 := HB1.out.size
          rcases e with e | e | e
          · rcases lF _ e with h | h
            · exact HOF.out hp a ha0 h
            · omega
          · rcases lG _ e with h | h
            · exact HOG.out hp a ha0 h
            · omega
          · omega)
        clear s1 c1 a1 wA lF lG nF nG wR hA0 h5 hr HM HM2 HK4
        generalize wr = w6 at *
        go_wp2_with fail
        go_loopw [53] (fun i wr => ∃ j : Nat, j ≤ on ∧ i = .int .i64 j ∧ SrtAt w6 F' G' sp q m b (runS m (l, bs) ((ordO 3 os).take (an + j))) (placeK (ordL 3 os) (runT 3 m (vals l) (ordO 3 os)) n (an + j)) wr) (fun i _ => on - (intOf i).toNat)
        case atStart => exact ⟨0, Nat.zero_le _, rfl, HS2.out⟩
        case round =>
          obtain ⟨j, hj', rfl, hr⟩ := hrel
          clear HS2
          by_cases hlt : j < on
          · obtain ⟨F2, G2, s1, c1, a1, rr, nF, nG, hw, lF, lG⟩ := hr
            have hrk := ints_kept HRO5.out (fun _ a ha e => HNO.out a ha e) hw
            have hok := ops_kept HOK.out (fun hp a ha e => HOO.out a hp ha e) hw
            have hjO : j < (othersL os).length := by rw [HON.out]; exact hlt
            have hkn : an + j < n := by have := HLL.out; have := HAN.out; have := HON.out; omega
            obtain ⟨lb, lo, rfl, ll, lc⟩ := hrk.2 (by omega)
            have cz := lc j hlt
            have hzb := othersL_at hjO
            have hzo : (ordL 3 os).getD (an + j) 0 = (othersL os).getD j 0 := by rw [ordL_parts, ← HAN.out]; exact getD_at _ _ _
            have eo := ordO_other hjO
            rw [HAN.out] at eo
            obtain ⟨z, hz⟩ : ∃ z, (othersL os).getD j 0 = z := ⟨_, rfl⟩
            rw [hz] at cz hzb hzo eo
            obtain ⟨pl, rfl⟩ : ∃ p : Nat, z = p := ⟨z.toNat, by omega⟩
            have hpn : pl < n := by have := hzb.2.1; rw [HL.out] at this; omega
            obtain ⟨oo, off, rfl, bol, hc⟩ := hok.2 (by omega)
            obtain ⟨y0, y1⟩ := hc pl hpn
            obtain ⟨kd, hkd⟩ : ∃ x, (os.getD pl (0, 0)).1 = x := ⟨_, rfl⟩
            obtain ⟨kv, hkv⟩ : ∃ x, (os.getD pl (0, 0)).2 = x := ⟨_, rfl⟩
            rw [Int.toNat_natCast] at eo hzb
            have hk1 : ¬ kd = 1 := by rw [← hkd]; exact hzb.2.2
            have e1 : (ordO 3 os).getD (an + j) (0, 0) = (kd, kv) := by rw [eo, ← hkd, ← hkv]
            rw [hkd] at y0
            rw [hkv] at y1
            obtain ⟨Z, hZ⟩ : ∃ Z, (runS m (l, bs) ((ordO 3 os).take (an + j))).1 = Z := ⟨_, rfl⟩
            obtain ⟨B, hB⟩ : ∃ B, (runS m (l, bs) ((ordO 3 os).take (an + j))).2 = B := ⟨_, rfl⟩
            have hot := others_told bs os (by rw [HL.out]; exact hkn) (show runS m (l, bs) ((ordO 3 os).take (an + j)) = (Z, B) by rw [← hZ, ← hB]) e1
            rw [hZ] at s1
            rw [hB] at c1
            have CD := Lib.hid (takenAny s1 kd kv hk1)
            have HPK := Lib.hid (show placeK (ordL 3 os) (runT 3 m (vals l) (ordO 3 os)) n (an + j + 1) = (placeK (ordL 3 os) (runT 3 m (vals l) (ordO 3 os)) n (an + j)).set pl (hpC m (vals Z) kd, hpV (vals Z) kd) by
              rw [← hot.1, show pl = ((ordL 3 os).getD (an + j) 0).toNat by rw [hzo, Int.toNat_natCast]]
              rfl)
            have est : stS m (Z, B) (kd, kv) = ((if kd = 2 then Z.tail else Z), B) := by
              unfold stS
              rw [if_neg hk1]
              split <;> rfl
            have HRS := Lib.hid (hot.2.trans est)
            obtain ⟨rc, hrc⟩ : ∃ x, hpC m (vals Z) kd = x := ⟨_, rfl⟩
            obtain ⟨rv, hrv⟩ : ∃ x, hpV (vals Z) kd = x := ⟨_, rfl⟩
            rw [hrc, hrv] at CD HPK
            have HN := Lib.hid (fun (w2 : World) (d : DidSO F2 sp m (if kd = 2 then Z.tail else Z) wr w2) => SrtAt.put (i := pl) (c := rc) (x := rv) rr nF nG hw lF lG (DidP.left (m := m) c1 a1 d))
            have i1 : (j : Int) < on := by omega
            have p1 : (pl : Int) < n := by omega
            clear hrk hok lc hzb hz hzo eo hc hkd hkv e1 hZ hB hot hrc hrv s1 c1 a1 rr nF nG hw lF lG hjO est
            go_wp2_with fail
            refine CD.out.mono ?_
            rintro e w7 ⟨rfl, d⟩
            obtain ⟨r2, hn2⟩ := HN.out w7 d
            have HNx := Lib.hid hn2
            obtain ⟨c0, c1⟩ := r2.cells (i := pl) (by rw [placeK_length]; exact hpn)
            have fz := r2.free
            clear d hn2 r2 CD HN y0 y1 cz
            go_wp2
            go_roundw
            case rel => exact ⟨j + 1, by omega, by go_num, by rw [show an + (j + 1) = an + j + 1 by omega, HRS.out, HPK.out]; exact HNx.out⟩
            case measure => simp [intOf]; omega
          · obtain rfl : on = j := by omega
            have hen : an + on = n := by have := HLL.out; have := HAN.out; have := HON.out; omega
            rw [hen] at hr
            have HF := Lib.hid (SrtAt.post (w := w) (os := os) (s0 := (l, bs)) hr (by have := HBB.out; have := HW0.out.size; have := HB1.out.size; have := HSZ.out; omega) (batS_end m (l, bs) os (by rw [HL.out]; exact Nat.le_refl _)) (by unfold batT; rw [HL.out]) HW0.out HLF.out.1 HLF.out.2)
            rw [HL.out] at HF
            clear hr hlt hen
            go_wp2
            go_ret
            exact HF.out
end

end Go.Proofs.YtkbhemaijbkpbaaGreat
namespace Go.Proofs.YtkbhemaijbkpbaaGreat
open Go.RowKit Go.Lib

section
variable {w W w' : World} {F G : Nat → Prop} {p q n : Nat} {m : Int} {zs : List Int} {os : List (Int × Int)} {e : Ending}
theorem K9.ApplyPost.from {sp : Option Nat} (hb : Below w.heap.size w W) (h : K9.ApplyPost W F sp m zs os n e w') : K9.ApplyPost w F sp m zs os n e w' := by
  obtain ⟨gt, F', he, r, s, wr, l, g, hn⟩ := h
  exact ⟨gt, F', he, r, s, (Wrote.of hb F).trans wr, fun g hg => (l g hg).imp id (fun h => Nat.le_trans hb.size h), Nat.le_trans hb.size g, hn⟩
theorem SrtPost.from {sp : Option Nat} {s : List It × List Bool} (hb : Below w.heap.size w W) (h : SrtPost W F G sp q m s os e w') : SrtPost w F G sp q m s os e w' := by
  obtain ⟨b, F', G', he, r, hg, s1, c1, ap, n1, n2, wr, lF, lG⟩ := h
  exact ⟨b, F', G', he, r, Nat.le_trans hb.size hg, s1, c1, ap, n1, n2, (Wrote.of hb _).trans wr, fun g hg => (lF g hg).imp id (fun h => Nat.le_trans hb.size h), fun g hg => (lG g hg).imp id (fun h => Nat.le_trans hb.size h)⟩
/-- The box of a holder. -/
theorem holdBox (w : World) (p : Nat) (t : TypeId) : ∀ W, w.alloc (.cells #[.pointer (some ⟨p, 0, none⟩)] t) = W → Below w.heap.size w W ∧ W.cell? ⟨w.heap.size, 0, none⟩ = some (.pointer (some ⟨p, 0, none⟩)) := by
  rintro W rfl
  exact ⟨(Below.refl _ _).alloc (Nat.le_refl _) _, by simp⟩

set_option maxRecDepth 100000 in
set_option maxHeartbeats 1600000 in
theorem pileBatch (h : K9.Stk w F p m zs) (c : Value) (ao : Option Addr) (cap : Nat) (ho : OpsAt w ao n os) (hoff : 0 < n → Off F ao) (hn : n ≤ 1000000) :
    Calls Tryz.prog 156 #[.agg #[.pointer (some ⟨p, 0, none⟩)], c, .slice ao n cap] w (K9.ApplyPost w F (some p) m zs os n) := by
  have HX := Lib.hid (fun W (hb : Below w.heap.size w W) => (K9.applyAny (sp := some p) (h.fresh hb) (fun g hg => Nat.lt_of_lt_of_le (h.foot g hg) hb.size) ao n cap os (ho.keep hb) hoff hn).mono fun e w' hp => K9.ApplyPost.from hb hp)
  clear h ho hoff hn
  go_enter Tryz.func156, Tryz.ntmps156
  go_upto_region 1 with (fail)
  generalize hW : w.alloc (.cells #[.pointer (some ⟨p, 0, none⟩)] 135) = W
  obtain ⟨hb, c0⟩ := holdBox w p _ W hW
  have C := HX.out W hb
  clear HX hW hb
  go_wp2_with fail
  refine C.mono ?_
  clear C c0
  rintro e w1 hp
  have HP := Lib.hid hp
  obtain ⟨gt, F', rfl, _⟩ := hp
  go_wp2
  go_ret
  exact HP.out

set_option maxRecDepth 100000 in
set_option maxHeartbeats 1600000 in
theorem rowBatch (h : D10.Rng w F p m zs) (c : Value) (ao : Option Addr) (cap : Nat) (ho : OpsAt w ao n os) (hoff : 0 < n → Off F ao) (hn : n ≤ 1000000) :
    Calls Tryz.prog 181 #[.agg #[.pointer (some ⟨p, 0, none⟩)], c, .slice ao n cap] w (D10.ComePost w F (some p) m zs os n) := by
  have HX := Lib.hid (fun W (hb : Below w.heap.size w W) => (D10.applyAny (sp := some p) (h.fresh hb) (fun g hg => Nat.lt_of_lt_of_le (h.foot g hg) hb.size) ao n cap os (ho.keep hb) hoff hn).mono fun e w' hp => D10.ComePost.from hb hp)
  clear h ho hoff hn
  go_enter Tryz.func181, Tryz.ntmps181
  go_upto_region 1 with (fail)
  generalize hW : w.alloc (.cells #[.pointer (some ⟨p, 0, none⟩)] 139) = W
  obtain ⟨hb, c0⟩ := holdBox w p _ W hW
  have C := HX.out W hb
  clear HX hW hb
  go_wp2_with fail
  refine C.mono ?_
  clear C c0
  rintro e w1 hp
  have HP := Lib.hid hp
  obtain ⟨gt, F', rfl, _⟩ := hp
  go_wp2
  go_ret
  exact HP.out

set_option maxRecDepth 100000 in
set_option maxHeartbeats 1600000 in
theorem heapBatch {s : List It × List Bool} (h : SkO w F (some p) m s.1) (c : Coin w G q s.2) (ap : Apart F G) (ao : Option Addr) (cap : Nat) (ho : OpsAt w ao n os) (hoF : 0 < n → Off F ao) (hoG : 0 < n → Off G ao) (hn : n ≤ 1000) :
    Calls Tryz.prog 211 #[.agg #[.pointer (some ⟨p, 0, none⟩)], .pointer (some ⟨q, 0, none⟩), .slice ao n cap] w (SrtPost w F G (some p) q m s os) := by
  obtain ⟨l, bs⟩ := s
  have HX := Lib.hid (fun W (hb : Below w.heap.size w W) => (applyAny (h.fresh hb) (c.fresh hb) ap ao n cap os (ho.keep hb) hoF hoG hn).mono fun e w' hp => SrtPost.from hb hp)
  clear h ho hoF hoG hn c
  go_enter Tryz.func211, Tryz.ntmps211
  go_upto_region 1 with (fail)
  generalize hW : w.alloc (.cells #[.pointer (some ⟨p, 0, none⟩)] 143) = W
  obtain ⟨hb, c0⟩ := holdBox w p _ W hW
  have C := HX.out W hb
  clear HX hW hb
  go_wp2_with fail
  refine C.mono ?_
  clear C c0
  rintro e w1 hp
  have HP := Lib.hid hp
  obtain ⟨gt, F', G', rfl, _⟩ := hp
  go_wp2
  go_ret
  exact HP.out

set_option maxRecDepth 100000 in
set_option maxHeartbeats 1600000 in
theorem heapEach {s : List It × List Bool} (h : SkO w F (some p) m s.1) (c : Coin w G q s.2) (ap : Apart F G) (ao : Option Addr) (cap : Nat) (ho : OpsAt w ao n os) (hoF : 0 < n → Off F ao) (hoG : 0 < n → Off G ao) (hn : n ≤ 1000) :
    Calls Tryz.prog 212 #[.agg #[.pointer (some ⟨p, 0, none⟩)], .pointer (some ⟨q, 0, none⟩), .slice ao n cap] w (SrtPost w F G (some p) q m s os) := by
  obtain ⟨l, bs⟩ := s
  have HX := Lib.hid (fun W (hb : Below w.heap.size w W) => (plainAny (h.fresh hb) (c.fresh hb) ap ao n cap os (ho.keep hb) hoF hoG hn).mono fun e w' hp => SrtPost.from hb hp)
  clear h ho hoF hoG hn c
  go_enter Tryz.func212, Tryz.ntmps212
  go_upto_region 1 with (fail)
  generalize hW : w.alloc (.cells #[.pointer (some ⟨p, 0, none⟩)] 143) = W
  obtain ⟨hb, c0⟩ := holdBox w p _ W hW
  have C := HX.out W hb
  clear HX hW hb
  go_wp2_with fail
  refine C.mono ?_
  clear C c0
  rintro e w1 hp
  have HP := Lib.hid hp
  obtain ⟨gt, F', G', rfl, _⟩ := hp
  go_wp2
  go_ret
  exact HP.out
end

end Go.Proofs.YtkbhemaijbkpbaaGreat
namespace Go.Proofs.YtkbhemaijbkpbaaGreat
open Go.RowKit Go.Lib

/-- What a batch at a holder leaves. -/
def HBat (ST : World → (Nat → Prop) → Nat → Int → List Int → Prop) (k : Int) (w : World) (F : Nat → Prop) (p : Nat) (m : Int) (zs : List Int) (os : List (Int × Int)) (e : Ending) (w' : World) : Prop :=
  ∃ b F', e = .returned (.slice (some ⟨b, 0, none⟩) os.length os.length) ∧ RRow w' b (batT k m zs os) ∧ ST w' F' p m (batZ k m zs os) ∧ Wrote F w w' ∧ Later F F' w ∧ w.heap.size ≤ b ∧ ¬ F' b
theorem HBat.from {ST : World → (Nat → Prop) → Nat → Int → List Int → Prop} {k m : Int} {w W w' : World} {F : Nat → Prop} {p : Nat} {zs : List Int} {os : List (Int × Int)} {e : Ending} (hb : Below w.heap.size w W) (h : HBat ST k W F p m zs os e w') : HBat ST k w F p m zs os e w' := by
  obtain ⟨b, F', he, r, s, wr, l, g, hn⟩ := h
  exact ⟨b, F', he, r, s, (Wrote.of hb F).trans wr, fun g hg => (l g hg).imp id (fun h => Nat.le_trans hb.size h), Nat.le_trans hb.size g, hn⟩

/-- Between two operations: the holder, and the row of what is told (in block b); since world w1 only these have been written to. -/
def TurnAt (ST : World → (Nat → Prop) → Nat → Int → List Int → Prop) (w1 : World) (F : Nat → Prop) (p : Nat) (m : Int) (b : Nat) (zs : List Int) (rs : List (Int × Int)) (wr : World) : Prop :=
  ∃ F', ST wr F' p m zs ∧ RRow wr b rs ∧ ¬ F' b ∧ Wrote (fun g => F g ∨ g = b) w1 wr ∧ Later F F' w1

section
variable {w w1 wr w2 W : World} {F F' : Nat → Prop} {p b n : Nat} {m : Int} {zs zs' : List Int} {rs : List (Int × Int)} {os : List (Int × Int)} {ao : Option Addr}
/-- A list of operations beside it. -/
theorem turn_ops (h : OpsAt w1 ao n os) (hn : 0 < n → Off F ao) (hb : 0 < n → ∀ x, ao = some x → x.block ≠ b) (hw : Wrote (fun g => F g ∨ g = b) w1 wr) : OpsAt wr ao n os :=
  ops_kept h (fun hp a ha e => e.elim (hn hp a ha) (hb hp a ha)) hw


theorem K9.turnPut {k : Nat} {c x : Int} (r : RRow W b rs) (hF : ¬ F' b) (hw : Wrote (fun g => F g ∨ g = b) w1 W) (lF : Later F F' w1) (d : K9.Did F' p m zs' W w2) :
    RRow w2 b rs ∧ TurnAt K9.Stk w1 F p m b zs' (rs.set k (c, x)) ((w2.setCell ⟨b, k * 2, none⟩ (.int .u8 c)).setCell ⟨b, k * 2 + 1, none⟩ (.int .i32 x)) := by
  obtain ⟨F2, h1, h4, h5⟩ := d
  have r2 : RRow w2 b rs := (h4.block b r.lt hF).trans r
  have k1 : ¬ F2 b := Later.not h5 hF r.lt
  have hw2 : Wrote (fun g => F g ∨ g = b) w1 w2 := hw.step (F' := F') (fun g hg => (lF g hg).imp .inl id) h4
  exact ⟨r2, F2, h1.apart (wrote2 w2 b _ _ _ _) (fun g a e => k1 (e ▸ a)), r2.set2 k c x, k1, hw2.trans ((wrote2 w2 b _ _ _ _).into (fun g hg => .inr hg)), lF.trans h5 hw.size⟩

theorem D10.turnPut {k : Nat} {c x : Int} (r : RRow W b rs) (hF : ¬ F' b) (hw : Wrote (fun g => F g ∨ g = b) w1 W) (lF : Later F F' w1) (d : D10.Did F' p m zs' W w2) :
    RRow w2 b rs ∧ TurnAt D10.Rng w1 F p m b zs' (rs.set k (c, x)) ((w2.setCell ⟨b, k * 2, none⟩ (.int .u8 c)).setCell ⟨b, k * 2 + 1, none⟩ (.int .i32 x)) := by
  obtain ⟨F2, h1, h4, h5⟩ := d
  have r2 : RRow w2 b rs := (h4.block b r.lt hF).trans r
  have k1 : ¬ F2 b := Later.not h5 hF r.lt
  have hw2 : Wrote (fun g => F g ∨ g = b) w1 w2 := hw.step (F' := F') (fun g hg => (lF g hg).imp .inl id) h4
  exact ⟨r2, F2, h1.apart (wrote2 w2 b _ _ _ _) (fun g a e => k1 (e ▸ a)), r2.set2 k c x, k1, hw2.trans ((wrote2 w2 b _ _ _ _).into (fun g hg => .inr hg)), lF.trans h5 hw.size⟩
end

section
variable {w : World} {F : Nat → Prop} {p n : Nat} {m : Int} {zs : List Int} {os : List (Int × Int)}
set_option maxRecDepth 100000 in
set_option maxHeartbeats 16000000 in
theorem K9.inTurn (h : K9.Stk w F p m zs) (ao : Option Addr) (cap : Nat) (ho : OpsAt w ao n os) (hoF : 0 < n → Off F ao) (hok : ∀ o ∈ os, OpOk o) (hn : n ≤ 1000000) :
    Calls Tryz.prog 159 #[.slice ao n cap, .func (Fn.func 160) #[.pointer (some ⟨p, 0, none⟩)] #[]] w (HBat K9.Stk 1 w F p m zs os) := by
  obtain ⟨j0, hj, hy0, hy1, hy2⟩ := info_parts infoRes
  have HF := Lib.hid h.foot
  have H := Lib.hid h
  have HO := Lib.hid ho
  have HOF := Lib.hid hoF
  have HK := Lib.hid hok
  have HL := Lib.hid ho.1
  clear h ho hoF hok
  go_enter Tryz.func159, Tryz.ntmps159
  go_wp2_with (at_make; refine wpList_make_full _ rfl _ _ 69 rfl w.heap.size 74 j0 _ 2 Tryz.underlying69 hj hy0 hy1 .i64 .i64 _ _ n rfl rfl rfl rfl (by rw [hy2]; omega) (by simp only [maxLen]; omega) (Nat.le_refl _) ?_; intro w1 hown1 hgrow1; have HM := Lib.hid (madeRes hown1 hgrow1); clear hown1 hgrow1)
  have HB := Lib.hid HM.out.2
  have HI := Lib.hid (show TurnAt K9.Stk w1 F p m w.heap.size (runZ 1 m zs (os.take 0)) (turnR 1 m zs os n 0) w1 from
    ⟨F, H.out.fresh HB.out, by rw [turnR_none]; exact HM.out.1, fun e => by have := HF.out _ e; omega, Wrote.refl _ _, Later.refl _ _⟩)
  have HO1 := Lib.hid (HO.out.keep HB.out)
  have HOL := Lib.hid (show 0 < n → ∀ x, ao = some x → x.block ≠ w.heap.size from fun hp x hx => by
    obtain ⟨b, off, e, hbl, _⟩ := HO.out.2 hp
    rw [e] at hx
    injection hx with hx
    subst hx
    exact Nat.ne_of_lt hbl)
  clear HM H HO hj hy0 hy1 hy2
  generalize hgt : w.heap.size = b at *
  have HGT := Lib.hid hgt
  clear hgt
  go_loopw [13] (fun i wr => ∃ k : Nat, k ≤ n ∧ i = .int .i64 k ∧ Hid (TurnAt K9.Stk w1 F p m b (runZ 1 m zs (os.take k)) (turnR 1 m zs os n k) wr)) (fun i _ => n - (intOf i).toNat)
  case atStart => exact ⟨0, Nat.zero_le _, rfl, HI⟩
  case round =>
    obtain ⟨k, hk, rfl, HR⟩ := hrel
    clear HI
    by_cases hlt : k < n
    · obtain ⟨F', s1, rr, nF, hw, lF⟩ := HR.out
      have hok := turn_ops HO1.out HOF.out HOL.out hw
      obtain ⟨bo, off, rfl, bol, hc⟩ := hok.2 (by omega)
      obtain ⟨x0, x1⟩ := hc k hlt
      have hop := ok_at HK.out (i := k) (by rw [HL.out]; exact hlt)
      have HZN := Lib.hid (run_step (k := 1) (m := m) (zs := zs) (os := os) (j := k) (by rw [HL.out]; exact hlt))
      have HRN := Lib.hid (turnR_next (k := 1) (m := m) (zs := zs) HL.out hlt)
      obtain ⟨kd, hkd⟩ : ∃ x, (os.getD k (0, 0)).1 = x := ⟨_, rfl⟩
      obtain ⟨kv, hkv⟩ : ∃ x, (os.getD k (0, 0)).2 = x := ⟨_, rfl⟩
      have HOP := Lib.hid hop
      rw [hkd] at x0
      rw [hkv] at x1
      rw [hkd, hkv] at HZN
      rw [hkd] at HRN
      have HKD := Lib.hid hkd
      clear hok hc hop hkd hkv
      obtain ⟨Z, hZ⟩ : ∃ Z, runZ 1 m zs (os.take k) = Z := ⟨_, rfl⟩
      rw [hZ] at s1 HZN HRN
      have i1 : (k : Int) < n := by omega
      have HBX := Lib.hid (show Below wr.heap.size wr (wr.alloc (.cells #[.int .u8 kd, .int .i32 kv] 38)) from (Below.refl _ _).alloc (Nat.le_refl _) _)
      have o0 := (OBox.new wr kd kv).c0
      have o1 := (OBox.new wr kd kv).c1
      have C := Lib.hid (show Calls Tryz.prog 160 #[.pointer (some ⟨p, 0, none⟩), .agg #[.int .u8 kd, .int .i32 kv]] (wr.alloc (.cells #[.int .u8 kd, .int .i32 kv] 38)) (fun e w' => e = .returned (.agg #[.int .u8 (objC 1 m Z kd), .int .i32 (objV 1 Z kd)]) ∧ K9.Did F' p m (objL 1 m Z kd kv) (wr.alloc (.cells #[.int .u8 kd, .int .i32 kv] 38)) w') from K9.doAny (s1.fresh HBX.out) kd kv (by have := HOP.out.1.1; rw [HKD.out] at this; exact this) (by have := HOP.out.1.2; rw [HKD.out] at this; exact this))
      have HN := Lib.hid (fun w2 (d : K9.Did F' p m (objL 1 m Z kd kv) (wr.alloc (.cells #[.int .u8 kd, .int .i32 kv] 38)) w2) => K9.turnPut (k := k) (c := objC 1 m Z kd) (x := objV 1 Z kd) (rr.below HBX.out) nF (hw.trans (Wrote.of HBX.out _)) lF d)
      have HRL := Lib.hid (turnR_length (k := 1) (m := m) (zs := zs) HL.out hk)
      clear s1 rr nF hw lF hZ HR HOP HKD
      go_wp2_with fail
      refine C.out.mono ?_
      clear C o0 o1
      rintro e w2 ⟨rfl, d⟩
      obtain ⟨r2, hn2⟩ := HN.out w2 d
      have HNx := Lib.hid hn2
      obtain ⟨c0, c1⟩ := r2.cells (i := k) (by rw [HRL.out]; exact hlt)
      have fz := r2.free
      clear d hn2 r2 HN x0 x1
      go_wp2
      go_roundw
      case rel => exact ⟨k + 1, by omega, by go_num, Lib.hid (by rw [HZN.out, ← HRN.out]; exact HNx.out)⟩
      case measure => simp [intOf]; omega
    · obtain rfl : k = n := by omega
      have HE := Lib.hid (show HBat K9.Stk 1 w F p m zs os (.returned (.slice (some ⟨b, 0, none⟩) k k)) wr from by
        obtain ⟨F', s1, rr, nF, hw, lF⟩ := HR.out
        have hL := HL.out
        subst hL
        rw [turnR_all rfl] at rr
        rw [List.take_length] at s1
        have hs := HB.out.size
        refine ⟨b, F', rfl, by rw [batT_plain (by decide)]; exact rr, by rw [batZ_plain (by decide)]; exact s1, (Wrote.of (show Below w.heap.size w w1 by rw [HGT.out]; exact HB.out) F).step (F' := fun g => F g ∨ g = b) (fun g hg => hg.imp id (fun e => by rw [e, HGT.out]; exact Nat.le_refl _)) hw, fun g hg => (lF g hg).imp id (fun (h : w1.heap.size ≤ g) => show w.heap.size ≤ g by omega), by rw [HGT.out]; exact Nat.le_refl _, nF⟩)
      clear HR
      go_wp2
      go_ret
      exact HE.out

set_option maxRecDepth 100000 in
set_option maxHeartbeats 1600000 in
theorem pileEach (h : K9.Stk w F p m zs) (c : Value) (ao : Option Addr) (cap : Nat) (ho : OpsAt w ao n os) (hoF : 0 < n → Off F ao) (hok : ∀ o ∈ os, OpOk o) (hn : n ≤ 1000000) :
    Calls Tryz.prog 157 #[.agg #[.pointer (some ⟨p, 0, none⟩)], c, .slice ao n cap] w (HBat K9.Stk 1 w F p m zs os) := by
  have HX := Lib.hid (fun W (hb : Below w.heap.size w W) => (K9.inTurn (h.fresh hb) ao cap (ho.keep hb) hoF hok hn).mono fun e w' hp => HBat.from hb hp)
  clear h ho hoF hok hn
  go_enter Tryz.func157, Tryz.ntmps157
  go_upto_region 1 with (fail)
  generalize hW : w.alloc (.cells #[.pointer (some ⟨p, 0, none⟩)] 135) = W
  obtain ⟨hb, c0⟩ := holdBox w p _ W hW
  have C := HX.out W hb
  clear HX hW hb
  go_wp2_with fail
  refine C.mono ?_
  clear C c0
  rintro e w1 hp
  have HP := Lib.hid hp
  obtain ⟨gt, F', rfl, _⟩ := hp
  go_wp2
  go_ret
  exact HP.out

theorem pileDoes (h : K9.Stk w F p m zs) (c : Value) (ao : Option Addr) (cap : Nat) (ho : OpsAt w ao n os) (hoF : 0 < n → Off F ao) (hn : n ≤ 1000000) :
    Calls Tryz.prog 156 #[.agg #[.pointer (some ⟨p, 0, none⟩)], c, .slice ao n cap] w (HBat K9.Stk 1 w F p m zs os) := by
  refine (pileBatch h c ao cap ho hoF hn).mono fun e w' hp => ?_
  have hl := ho.1
  subst hl
  obtain ⟨gt, F', he, r, s, wr, l, g, hnn⟩ := hp
  obtain ⟨e1, e2⟩ := K9.told_bat (m := m) (zs := zs) (os := os) rfl
  rw [e1] at r
  rw [e2] at s
  exact ⟨gt, F', he, r, s, wr, l, g, hnn⟩
end

section
variable {w : World} {F : Nat → Prop} {p n : Nat} {m : Int} {zs : List Int} {os : List (Int × Int)}
set_option maxRecDepth 100000 in
set_option maxHeartbeats 16000000 in
theorem D10.inTurn (h : D10.Rng w F p m zs) (ao : Option Addr) (cap : Nat) (ho : OpsAt w ao n os) (hoF : 0 < n → Off F ao) (hok : ∀ o ∈ os, OpOk o) (hn : n ≤ 1000000) :
    Calls Tryz.prog 159 #[.slice ao n cap, .func (Fn.func 184) #[.pointer (some ⟨p, 0, none⟩)] #[]] w (HBat D10.Rng 2 w F p m zs os) := by
  obtain ⟨j0, hj, hy0, hy1, hy2⟩ := info_parts infoRes
  have HF := Lib.hid h.foot
  have H := Lib.hid h
  have HO := Lib.hid ho
  have HOF := Lib.hid hoF
  have HK := Lib.hid hok
  have HL := Lib.hid ho.1
  clear h ho hoF hok
  go_enter Tryz.func159, Tryz.ntmps159
  go_wp2_with (at_make; refine wpList_make_full _ rfl _ _ 69 rfl w.heap.size 74 j0 _ 2 Tryz.underlying69 hj hy0 hy1 .i64 .i64 _ _ n rfl rfl rfl rfl (by rw [hy2]; omega) (by simp only [maxLen]; omega) (Nat.le_refl _) ?_; intro w1 hown1 hgrow1; have HM := Lib.hid (madeRes hown1 hgrow1); clear hown1 hgrow1)
  have HB := Lib.hid HM.out.2
  have HI := Lib.hid (show TurnAt D10.Rng w1 F p m w.heap.size (runZ 2 m zs (os.take 0)) (turnR 2 m zs os n 0) w1 from
    ⟨F, H.out.fresh HB.out, by rw [turnR_none]; exact HM.out.1, fun e => by have := HF.out _ e; omega, Wrote.refl _ _, Later.refl _ _⟩)
  have HO1 := Lib.hid (HO.out.keep HB.out)
  have HOL := Lib.hid (show 0 < n → ∀ x, ao = some x → x.block ≠ w.heap.size from fun hp x hx => by
    obtain ⟨b, off, e, hbl, _⟩ := HO.out.2 hp
    rw [e] at hx
    injection hx with hx
    subst hx
    exact Nat.ne_of_lt hbl)
  clear HM H HO hj hy0 hy1 hy2
  generalize hgt : w.heap.size = b at *
  have HGT := Lib.hid hgt
  clear hgt
  go_loopw [13] (fun i wr => ∃ k : Nat, k ≤ n ∧ i = .int .i64 k ∧ Hid (TurnAt D10.Rng w1 F p m b (runZ 2 m zs (os.take k)) (turnR 2 m zs os n k) wr)) (fun i _ => n - (intOf i).toNat)
  case atStart => exact ⟨0, Nat.zero_le _, rfl, HI⟩
  case round =>
    obtain ⟨k, hk, rfl, HR⟩ := hrel
    clear HI
    by_cases hlt : k < n
    · obtain ⟨F', s1, rr, nF, hw, lF⟩ := HR.out
      have hok := turn_ops HO1.out HOF.out HOL.out hw
      obtain ⟨bo, off, rfl, bol, hc⟩ := hok.2 (by omega)
      obtain ⟨x0, x1⟩ := hc k hlt
      have hop := ok_at HK.out (i := k) (by rw [HL.out]; exact hlt)
      have HZN := Lib.hid (run_step (k := 2) (m := m) (zs := zs) (os := os) (j := k) (by rw [HL.out]; exact hlt))
      have HRN := Lib.hid (turnR_next (k := 2) (m := m) (zs := zs) HL.out hlt)
      obtain ⟨kd, hkd⟩ : ∃ x, (os.getD k (0, 0)).1 = x := ⟨_, rfl⟩
      obtain ⟨kv, hkv⟩ : ∃ x, (os.getD k (0, 0)).2 = x := ⟨_, rfl⟩
      have HOP := Lib.hid hop
      rw [hkd] at x0
      rw [hkv] at x1
      rw [hkd, hkv] at HZN
      rw [hkd] at HRN
      have HKD := Lib.hid hkd
      clear hok hc hop hkd hkv
      obtain ⟨Z, hZ⟩ : ∃ Z, runZ 2 m zs (os.take k) = Z := ⟨_, rfl⟩
      rw [hZ] at s1 HZN HRN
      have i1 : (k : Int) < n := by omega
      have HBX := Lib.hid (show Below wr.heap.size wr (wr.alloc (.cells #[.int .u8 kd, .int .i32 kv] 38)) from (Below.refl _ _).alloc (Nat.le_refl _) _)
      have o0 := (OBox.new wr kd kv).c0
      have o1 := (OBox.new wr kd kv).c1
      have C := Lib.hid (show Calls Tryz.prog 184 #[.pointer (some ⟨p, 0, none⟩), .agg #[.int .u8 kd, .int .i32 kv]] (wr.alloc (.cells #[.int .u8 kd, .int .i32 kv] 38)) (fun e w' => e = .returned (.agg #[.int .u8 (objC 2 m Z kd), .int .i32 (objV 2 Z kd)]) ∧ D10.Did F' p m (objL 2 m Z kd kv) (wr.alloc (.cells #[.int .u8 kd, .int .i32 kv] 38)) w') from D10.doAny (s1.fresh HBX.out) kd kv)
      have HN := Lib.hid (fun w2 (d : D10.Did F' p m (objL 2 m Z kd kv) (wr.alloc (.cells #[.int .u8 kd, .int .i32 kv] 38)) w2) => D10.turnPut (k := k) (c := objC 2 m Z kd) (x := objV 2 Z kd) (rr.below HBX.out) nF (hw.trans (Wrote.of HBX.out _)) lF d)
      have HRL := Lib.hid (turnR_length (k := 2) (m := m) (zs := zs) HL.out hk)
      clear s1 rr nF hw lF hZ HR HOP HKD
      go_wp2_with fail
      refine C.out.mono ?_
      clear C o0 o1
      rintro e w2 ⟨rfl, d⟩
      obtain ⟨r2, hn2⟩ := HN.out w2 d
      have HNx := Lib.hid hn2
      obtain ⟨c0, c1⟩ := r2.cells (i := k) (by rw [HRL.out]; exact hlt)
      have fz := r2.free
      clear d hn2 r2 HN x0 x1
      go_wp2
      go_roundw
      case rel => exact ⟨k + 1, by omega, by go_num, Lib.hid (by rw [HZN.out, ← HRN.out]; exact HNx.out)⟩
      case measure => simp [intOf]; omega
    · obtain rfl : k = n := by omega
      have HE := Lib.hid (show HBat D10.Rng 2 w F p m zs os (.returned (.slice (some ⟨b, 0, none⟩) k k)) wr from by
        obtain ⟨F', s1, rr, nF, hw, lF⟩ := HR.out
        have hL := HL.out
        subst hL
        rw [turnR_all rfl] at rr
        rw [List.take_length] at s1
        have hs := HB.out.size
        refine ⟨b, F', rfl, by rw [batT_plain (by decide)]; exact rr, by rw [batZ_plain (by decide)]; exact s1, (Wrote.of (show Below w.heap.size w w1 by rw [HGT.out]; exact HB.out) F).step (F' := fun g => F g ∨ g = b) (fun g hg => hg.imp id (fun e => by rw [e, HGT.out]; exact Nat.le_refl _)) hw, fun g hg => (lF g hg).imp id (fun (h : w1.heap.size ≤ g) => show w.heap.size ≤ g by omega), by rw [HGT.out]; exact Nat.le_refl _, nF⟩)
      clear HR
      go_wp2
      go_ret
      exact HE.out

set_option maxRecDepth 100000 in
set_option maxHeartbeats 1600000 in
theorem rowEach (h : D10.Rng w F p m zs) (c : Value) (ao : Option Addr) (cap : Nat) (ho : OpsAt w ao n os) (hoF : 0 < n → Off F ao) (hok : ∀ o ∈ os, OpOk o) (hn : n ≤ 1000000) :
    Calls Tryz.prog 182 #[.agg #[.pointer (some ⟨p, 0, none⟩)], c, .slice ao n cap] w (HBat D10.Rng 2 w F p m zs os) := by
  have HX := Lib.hid (fun W (hb : Below w.heap.size w W) => (D10.inTurn (h.fresh hb) ao cap (ho.keep hb) hoF hok hn).mono fun e w' hp => HBat.from hb hp)
  clear h ho hoF hok hn
  go_enter Tryz.func182, Tryz.ntmps182
  go_upto_region 1 with (fail)
  generalize hW : w.alloc (.cells #[.pointer (some ⟨p, 0, none⟩)] 139) = W
  obtain ⟨hb, c0⟩ := holdBox w p _ W hW
  have C := HX.out W hb
  clear HX hW hb
  go_wp2_with fail
  refine C.mono ?_
  clear C c0
  rintro e w1 hp
  have HP := Lib.hid hp
  obtain ⟨gt, F', rfl, _⟩ := hp
  go_wp2
  go_ret
  exact HP.out

theorem rowDoes (h : D10.Rng w F p m zs) (c : Value) (ao : Option Addr) (cap : Nat) (ho : OpsAt w ao n os) (hoF : 0 < n → Off F ao) (hn : n ≤ 1000000) :
    Calls Tryz.prog 181 #[.agg #[.pointer (some ⟨p, 0, none⟩)], c, .slice ao n cap] w (HBat D10.Rng 2 w F p m zs os) := by
  refine (rowBatch h c ao cap ho hoF hn).mono fun e w' hp => ?_
  have hl := ho.1
  subst hl
  obtain ⟨gt, F', he, r, s, wr, l, g, hnn, _⟩ := hp
  obtain ⟨e1, e2⟩ := D10.told_bat (m := m) (zs := zs) (os := os) rfl
  rw [e1] at r
  rw [e2] at s
  exact ⟨gt, F', he, r, s, wr, l, g, hnn⟩
end

end Go.Proofs.YtkbhemaijbkpbaaGreat
