/-
  What reaperref11.Apply tells: as batS and batT say. Conditions: at most a thousand items and operations, at most twenty thousand bits.
-/
import Derived.Test.YtniefplgijpckaaGreatRefD12
import Derived.Test.YtniefplgijpckaaGreatRefE12
import Derived.Test.YtniefplgijpckaaGreatAppC12
namespace Go.Proofs.YtniefplgijpckaaGreat
open Go.RowKit Go.Lib

/-- Where a list of items may lie: not in the row of what is told; it is new, or where the first one lay. -/
def InPlace (w : World) (n0 : Nat) (ai a : Option Addr) (b n : Nat) : Prop := ∀ y, a = some y → 0 < n → y.block ≠ b ∧ (w.heap.size ≤ y.block ∨ (0 < n0 ∧ ∃ y0, ai = some y0 ∧ y.block = y0.block))

theorem tail_below {w w' : World} {v : Value} {xs : List Value} (h : Tail w v xs) (hb : Below w.heap.size w w') : Tail w' v xs := h.keep hb.size (fun _ hg => hb.block _ (h.lt hg))

/-- What holds at each round's head of Apply. -/
structure RaAt (w : World) (ai : Option Addr) (vb : Option Nat) (m : Int) (s0 : List It × List Bool) (os : List (Int × Int)) (al : Option Addr) (n b k : Nat) (t1 t2 : Value) (wr : World) : Prop where
  it : ∃ a c, t1 = .slice a (runS m s0 ((ordO 3 os).take k)).1.length c ∧ ItemsAt wr a (runS m s0 ((ordO 3 os).take k)).1.length (runS m s0 ((ordO 3 os).take k)).1 ∧ (runS m s0 ((ordO 3 os).take k)).1.length ≤ c ∧ InPlace w s0.1.length ai a b (runS m s0 ((ordO 3 os).take k)).1.length
  bt : Tail wr t2 ((runS m s0 ((ordO 3 os).take k)).2.map Value.bool)
  bo : t2.ownBlock = vb
  p : RRow wr b (placeK (ordL 3 os) (runT 3 m (vals s0.1) (ordO 3 os)) n k)
  o : Reads .i64 wr al n (ordL 3 os)
  bl : Below w.heap.size w wr

theorem RaAt.next {w wr w2 : World} {ai : Option Addr} {vb : Option Nat} {m : Int} {s0 : List It × List Bool} {os : List (Int × Int)} {al : Option Addr} {n b k pl : Nat} {t1 t2 : Value} {rc rv : Int} {Z : List It} {B : List Bool} {a' : Option Addr} {c' : Nat} {t2' : Value}
    (h : RaAt w ai vb m s0 os al n b k t1 t2 wr) (hp : (ordL 3 os).getD k 0 = (pl : Int)) (hot : (runT 3 m (vals s0.1) (ordO 3 os)).getD k (0, 0) = (rc, rv)) (hZ : runS m s0 ((ordO 3 os).take (k + 1)) = (Z, B))
    (hb : Below wr.heap.size wr w2) (ia : ItemsAt w2 a' Z.length Z) (hc : Z.length ≤ c') (hia : InPlace w s0.1.length ai a' b Z.length) (bt : Tail w2 t2' (B.map Value.bool)) (bo : t2'.ownBlock = vb) (hvb : vb ≠ some b) (hal : 0 < n → ∀ y, al = some y → y.block ≠ b) (hbb : w.heap.size ≤ b) (hn : 0 < n) :
    RaAt w ai vb m s0 os al n b (k + 1) (.slice a' Z.length c') t2' ((w2.setCell ⟨b, pl * 2, none⟩ (.int .u8 rc)).setCell ⟨b, pl * 2 + 1, none⟩ (.int .i32 rv)) := by
  have hw := wrote2 w2 b (pl * 2) (pl * 2 + 1) (.int .u8 rc) (.int .i32 rv)
  refine ⟨?_, ?_, bo, ?_, ?_, (h.bl.trans (hb.mono h.bl.size)).trans (hw.below (Nat.le_trans h.bl.size hb.size) (fun g hg => by have hg : g = b := hg; omega))⟩
  · rw [hZ]
    refine ⟨a', c', rfl, ?_, hc, hia⟩
    exact ia.off (F := fun x => x = b) (fun hp y hy e => (hia y hy hp).1 e) hw
  · rw [hZ]
    exact bt.keep hw.size (fun g hg => hw.block g (bt.lt hg) (fun e => hvb (by have e : g = b := e; rw [← bo, hg, e])))
  · have := (h.p.below hb).set2 pl rc rv
    unfold placeK
    rw [hp, Int.toNat_natCast, hot]
    exact this
  · exact ints_kept (h.o.keep hb) (F := fun x => x = b) (fun hp y hy e => hal hp y hy e) hw

/-- What Apply of the document leaves. -/
def RefApPost (w : World) (ai : Option Addr) (vb : Option Nat) (m : Int) (s0 : List It × List Bool) (os : List (Int × Int)) (e : Ending) (w' : World) : Prop :=
  ∃ a c v b, e = .returned (.tuple #[.slice a (batS m s0 os).1.length c, v, .slice (some ⟨b, 0, none⟩) os.length os.length]) ∧ ItemsAt w' a (batS m s0 os).1.length (batS m s0 os).1 ∧ (batS m s0 os).1.length ≤ c ∧ InPlace w s0.1.length ai a b (batS m s0 os).1.length ∧ Tail w' v ((batS m s0 os).2.map Value.bool) ∧ v.ownBlock = vb ∧ RRow w' b (batT 3 m (vals s0.1) os) ∧ w.heap.size ≤ b ∧ Below w.heap.size w w'

theorem RaAt.done {w wr : World} {ai : Option Addr} {vb : Option Nat} {m : Int} {s0 : List It × List Bool} {os : List (Int × Int)} {al : Option Addr} {n b : Nat} {t1 t2 : Value} (h : RaAt w ai vb m s0 os al n b n t1 t2 wr) (hn : os.length = n) (hbb : w.heap.size ≤ b) :
    RefApPost w ai vb m s0 os (.returned (.tuple #[t1, t2, .slice (some ⟨b, 0, none⟩) n n])) wr := by
  obtain ⟨⟨a, c, rfl, h1, h2, h3⟩, h4, h5, h6, _, h8⟩ := h
  subst hn
  rw [batS_end m s0 os (Nat.le_refl _)] at h1 h2 h3 h4 ⊢
  exact ⟨a, c, t2, b, rfl, h1, h2, h3, h4, h5, h6, hbb, h8⟩

theorem bits_le (m : Int) : ∀ (ps : List (Int × Int)) (s : List It × List Bool), (runS m s ps).2.length ≤ s.2.length
  | [], _ => Nat.le_refl _
  | o :: ps, s => by
    show (runS m (stS m s o) ps).2.length ≤ s.2.length
    refine Nat.le_trans (bits_le m ps _) ?_
    unfold stS
    split
    · split
      · exact left_le s.2
      · exact Nat.le_refl _
    · split <;> exact Nat.le_refl _
theorem items_drop1 {w : World} {ao : Option Addr} {n : Nat} {i : It} {l : List It} (h : ItemsAt w ao (n + 1) (i :: l)) {b off : Nat} (ha : ao = some ⟨b, off, none⟩) : ItemsAt w (some ⟨b, off + 2, none⟩) n l := by
  refine ⟨by have := h.1; simpa using this, fun hp => ?_⟩
  obtain ⟨b', off', e, bl, hc⟩ := h.2 (by omega)
  rw [ha] at e
  simp only [Option.some.injEq, Addr.mk.injEq, and_true] at e
  obtain ⟨rfl, rfl⟩ := e
  refine ⟨b, off + 2, rfl, bl, fun j u hu => ?_⟩
  have := hc (j + 2) u (by rw [flatI_cons]; simpa using hu)
  rw [show off + 2 + j = off + (j + 2) by omega]
  exact this

theorem begunA (w : World) (k x : Int) : ∀ W, (w.alloc (.cells #[.int .u8 k, .int .i32 x] 49)).alloc (.cells #[.int .u8 5, .int .i32 0] 53) = W →
    OBox W w.heap.size k x ∧ RBox W (w.heap.size + 1) 5 0 ∧ Below w.heap.size w W ∧ W.heap.size = w.heap.size + 2 := by
  rintro W rfl
  have h := RBox.new (w.alloc (.cells #[.int .u8 k, .int .i32 x] 49)) 5 0
  refine ⟨(OBox.new w k x).alloc _, by simpa using h, ((Below.refl _ _).alloc (Nat.le_refl _) _).alloc (by simp) _, by simp⟩

set_option maxRecDepth 100000 in
set_option maxHeartbeats 32000000 in
theorem refBat11 (w : World) (most : Int) (ai : Option Addr) (ni ci : Nat) (v : Value) (ao : Option Addr) (n cap : Nat) (l : List It) (bs : List Bool) (os : List (Int × Int)) (hi : ItemsAt w ai ni l) (hci : ni ≤ ci) (hni : ni ≤ 1000) (hv : Tail w v (bs.map Value.bool)) (hbs : bs.length ≤ 20000) (ho : OpsAt w ao n os) (hn : n ≤ 1000) (hlm : (l.length : Int) ≤ mostOf most) :
    Calls Tryz.prog 36 #[.int .i64 most, .slice ai ni ci, v, .slice ao n cap] w (RefApPost w ai v.ownBlock (mostOf most) (l, bs) os) := by
  obtain ⟨j0, hj, hy0, hy1, hy2⟩ := info_parts infoRes
  have hmo := mostOf_in most
  obtain ⟨m, hm⟩ : ∃ m, mostOf most = m := ⟨_, rfl⟩
  rw [hm] at hmo hlm ⊢
  have HM := Lib.hid hm
  clear hm
  have HI := Lib.hid (And.intro hi hci)
  have HV := Lib.hid hv
  have HO := Lib.hid ho
  have HL := Lib.hid ho.1
  have HLI := Lib.hid hi.1
  have HZL := Lib.hid (fun (k : Nat) => runS_len (m := m) ((ordO 3 os).take k) (s := (l, bs)) hlm)
  have HBL := Lib.hid (fun (k : Nat) => bits_le m ((ordO 3 os).take k) (l, bs))
  clear hi hci hv ho
  go_enter Tryz.func36, Tryz.ntmps36
  go_upto_region 2 with (at_make; refine wpList_make_full _ rfl _ _ 33 rfl w.heap.size 53 j0 _ 2 Tryz.underlying33 hj hy0 hy1 .i64 .i64 _ _ n rfl rfl rfl rfl (by rw [hy2]; omega) (by simp only [maxLen]; omega) (Nat.le_refl _) ?_; intro w4 hown4 hgrow4; have HN := Lib.hid (madeRes hown4 hgrow4); clear hown4 hgrow4)
  have HVB := Lib.hid (show v.ownBlock ≠ some w.heap.size from fun e => by have := HV.out.lt e; omega)
  have HBW := Lib.hid HN.out.2
  have HLT := Lib.hid (show w.heap.size < w4.heap.size from HN.out.1.lt)
  generalize hb : w.heap.size = b at *
  have HB := Lib.hid (show w.heap.size ≤ b by omega)
  have HBW2 := Lib.hid (show Below w.heap.size w w4 by rw [hb]; exact HBW.out)
  have C := Lib.hid (refOrder w4 3 ao n cap os (HO.out.keep HBW2.out) hn)
  have HBQ := Lib.hid hb
  clear hb HBW
  go_wp2_with fail
  refine C.out.mono ?_
  rintro e w5 ⟨al, cl, rfl, r5, n5, b5⟩
  have HAL := Lib.hid (show 0 < n → ∀ y, al = some y → y.block ≠ b from fun _ y hy => by have := n5 y hy; have := HLT.out; omega)
  have HS := Lib.hid (show RaAt w ai v.ownBlock m (l, bs) os al n b 0 (.slice ai ni ci) v w5 from by
    have hb5 : Below w.heap.size w w5 := HBW2.out.trans (b5.mono HBW2.out.size)
    refine ⟨⟨ai, ci, ?_, ?_, ?_, ?_⟩, ?_, rfl, HN.out.1.below b5, r5, hb5⟩
    · show Value.slice ai ni ci = .slice ai l.length ci
      rw [HLI.out]
    · show ItemsAt w5 ai l.length l
      rw [HLI.out]; exact HI.out.1.keep hb5
    · show l.length ≤ ci
      rw [HLI.out]; exact HI.out.2
    · intro y hy hp
      have := HI.out.1.lt (by rw [← HLI.out]; exact hp) y hy
      exact ⟨by have := HBQ.out; omega, .inr ⟨hp, y, hy, rfl⟩⟩
    · exact HV.out.keep hb5.size (fun g hg => hb5.block g (HV.out.lt hg)))
  clear r5 n5 b5 C HN HBW2 HI HV
  generalize v.ownBlock = vb at *
  go_wp2_with fail
  go_loopw [1, 2, 13] (fun t1 t2 i wr => ∃ k : Nat, k ≤ n ∧ i = .int .i64 k ∧ RaAt w ai vb m (l, bs) os al n b k t1 t2 wr) (fun _ _ i _ => n - (intOf i).toNat)
  case atStart => exact ⟨0, Nat.zero_le _, rfl, HS.out⟩
  case round =>
    obtain ⟨k, hk, rfl, hr⟩ := hrel
    clear HS
    by_cases hlt : k < n
    · obtain ⟨a, c0, rfl, rd, hc0, hip⟩ := hr.it
      obtain ⟨lb, lo, rfl, ll, lc⟩ := hr.o.2 (by omega)
      have cz := lc k hlt
      have hzb := ordL_at (obj := 3) (os := os) (i := k) (by rw [HL.out]; exact hlt)
      obtain ⟨z, hz⟩ : ∃ z, (ordL 3 os).getD k 0 = z := ⟨_, rfl⟩
      rw [hz] at cz hzb
      rw [HL.out] at hzb
      obtain ⟨pl, rfl⟩ : ∃ p : Nat, z = p := ⟨z.toNat, by omega⟩
      have hpn : pl < n := by omega
      obtain ⟨bo, off, rfl, bol, hc⟩ := HO.out.2 (by omega)
      have y0 := (hr.bl.cell (p := ⟨bo, off + pl * 2, none⟩) bol).trans (hc pl hpn).1
      have y1 := (hr.bl.cell (p := ⟨bo, off + pl * 2 + 1, none⟩) bol).trans (hc pl hpn).2
      have i1 : (k : Int) < n := by omega
      have p1 : (pl : Int) < n := by omega
      obtain ⟨kd, hkd⟩ : ∃ x, (os.getD pl (0, 0)).1 = x := ⟨_, rfl⟩
      obtain ⟨kv, hkv⟩ : ∃ x, (os.getD pl (0, 0)).2 = x := ⟨_, rfl⟩
      have e1 : (ordO 3 os).getD k (0, 0) = (kd, kv) := by rw [ordO_at (by rw [HL.out]; exact hlt), hz, Int.toNat_natCast, ← hkd, ← hkv]
      rw [hkd] at y0
      rw [hkv] at y1
      have hZl := HZL.out k
      have hBl := HBL.out k
      have hBt := hr.bt
      have hBo := hr.bo
      have HR := Lib.hid hr
      obtain ⟨Z, hZ⟩ : ∃ Z, (runS m (l, bs) ((ordO 3 os).take k)).1 = Z := ⟨_, rfl⟩
      obtain ⟨B, hB⟩ : ∃ B, (runS m (l, bs) ((ordO 3 os).take k)).2 = B := ⟨_, rfl⟩
      have hot := others_told bs os (by rw [HL.out]; exact hlt) (show runS m (l, bs) ((ordO 3 os).take k) = (Z, B) by rw [← hZ, ← hB]) e1
      rw [hZ] at rd hc0 hip hZl HR ⊢
      rw [hB] at hBt hBl
      have HOT := Lib.hid hot
      have HPL := Lib.hid hz
      have HNX := Lib.hid (fun (w2 : World) (rc rv : Int) (Z' : List It) (B' : List Bool) (a' : Option Addr) (c' : Nat) (t2' : Value) (h1 : (hpC m (vals Z) kd, hpV (vals Z) kd) = (rc, rv)) (h2 : stS m (Z, B) (kd, kv) = (Z', B')) (hb : Below wr.heap.size wr w2) (ia : ItemsAt w2 a' Z'.length Z') (hc : Z'.length ≤ c') (hia : InPlace w l.length ai a' b Z'.length) (bt : Tail w2 t2' (B'.map Value.bool)) (bo : t2'.ownBlock = vb) =>
        RaAt.next hr HPL.out (HOT.out.1.trans h1) (HOT.out.2.trans h2) hb ia hc hia bt bo HVB.out HAL.out HB.out (show 0 < n by omega))
      have HX := Lib.hid (And.intro rd (And.intro hc0 (And.intro hip (And.intro hBt (And.intro hBo (And.intro hZl hBl))))))
      have HPR := Lib.hid hr.p
      have hlb0 := ll
      have hwr := hr.bl.size
      clear hr hc hkd hkv e1 hZ hB hot rd hc0 hip hBt hBo hz hzb lc HR
      go_upto_region 8 with (fail)
      generalize hW : (wr.alloc (.cells #[.int .u8 kd, .int .i32 kv] 49)).alloc (.cells #[.int .u8 5, .int .i32 0] 53) = W
      obtain ⟨o0, b0, hbW, hsW⟩ := begunA wr _ _ W hW
      have HO0 := Lib.hid o0
      have HB0 := Lib.hid b0
      have HBW := Lib.hid hbW
      have cz := (hbW.cell (p := ⟨lb, lo + k, none⟩) ll).trans cz
      have HLB := Lib.hid (Nat.lt_of_lt_of_le ll hbW.size)
      have HSW := Lib.hid hsW
      have x0 := o0.c0
      have x1 := o0.c1
      clear hW o0 b0 hbW y0 y1 ll hsW
      have HLB0 := Lib.hid hlb0
      have HCZL := HLB
      have HRB0 := Lib.hid (HPR.out.lt)
      have HWR := Lib.hid hwr
      clear hlb0 hwr
      by_cases h1 : kd = 1
      · subst h1
        by_cases hf : (Z.length : Int) < m
        · have HFF := Lib.hid hf
          have df : decide (m ≤ (Z.length : Int)) = false := by simpa using hf
          have df2 : ¬ m ≤ (Z.length : Int) := by omega
          have q0w := HB0.out.c0
          have q1w := HB0.out.c1
          have fw := HB0.out.f
          have M := refMost most W
          rw [HM.out] at M
          have HQ := Lib.hid (refHeight W _ B (tail_below HX.out.2.2.2.1 HBW.out) (by have := HX.out.2.2.2.2.2.2; omega))
          go_wp2_with fail
          refine M.mono ?_
          clear M
          rintro e w' ⟨rfl, rfl⟩
          go_wp2_with fail
          refine HQ.out.mono ?_
          rintro e w7 ⟨v7, rfl, t7, o7, b7⟩
          have HT7 := Lib.hid (And.intro t7 o7)
          have HB7 := Lib.hid (HBW.out.trans (b7.mono HBW.out.size))
          have HO7 := Lib.hid (HO0.out.keep b7)
          have HZ7 := Lib.hid (HB0.out.keep b7)
          have hs7 := b7.size
          have cz := (b7.cell (p := ⟨lb, lo + k, none⟩) HLB.out).trans cz
          have x1 := HO7.out.c1
          have CI := Lib.hid (refInsert w7 most _ Z.length c0 Z kv ((up B : Int) + 1) (HX.out.1.keep HB7.out) (by omega) HX.out.2.1)
          rw [HM.out] at CI
          clear t7 o7 b7 HQ q0w q1w fw x0
          go_wp2_with fail
          refine CI.out.mono ?_
          rintro e w8 ⟨a8, c8, rfl, i8, l8, s8, b8⟩
          have hHof : hOf ((up B : Int) + 1) = up B + 1 := by have hu := up_le B; unfold hOf; split <;> (try split) <;> omega
          have hIns : insL m Z ⟨kv, hOf ((up B : Int) + 1)⟩ = insIt ⟨kv, up B + 1⟩ Z := by unfold insL; rw [if_pos HFF.out, hHof]
          rw [hIns] at i8 l8 s8 ⊢
          have HB8 := Lib.hid (HB7.out.trans (b8.mono HB7.out.size))
          have HZ8 := Lib.hid (HZ7.out.keep b8)
          have hl8 : (insIt ⟨kv, up B + 1⟩ Z).length = Z.length + 1 := insIt_length _ _
          have cz := (b8.cell (p := ⟨lb, lo + k, none⟩) (Nat.lt_of_lt_of_le HLB.out hs7)).trans cz
          have HCZ8 := Lib.hid (Nat.lt_of_lt_of_le (Nat.lt_of_lt_of_le HLB.out hs7) b8.size)
          have s8' : ∀ y, a8 = some y → w7.heap.size ≤ y.block := by
            rcases s8 with ⟨_, h⟩ | h
            · have := congrArg List.length h; rw [hl8] at this; omega
            · exact h
          have HI8 := Lib.hid (And.intro i8 (And.intro l8 (And.intro s8' (And.intro (tail_below HT7.out.1 b8) HT7.out.2))))
          have HW7 := Lib.hid (show wr.heap.size + 2 ≤ w7.heap.size by have := HSW.out; omega)
          have q0w := HZ8.out.c0
          have q1w := HZ8.out.c1
          have fw := HZ8.out.f
          clear i8 l8 s8 s8' b8 CI hIns hHof x1 hs7 hl8
          have HCZL := HCZ8
          go_upto_region 21 with (fail)
          clear q0w q1w fw
          have HRB := Lib.hid (HZ8.out.set2 1 0)
          have HBX := Lib.hid ((HB8.out.setCell (p := ⟨wr.heap.size + 1, 0, none⟩) (by simp) (.int .u8 1)).setCell (p := ⟨wr.heap.size + 1, 1, none⟩) (by simp) (.int .i32 0))
          have hWs := wrote2 w8 (wr.heap.size + 1) 0 1 (.int .u8 1) (.int .i32 0)
          have cz := (hWs.cell (p := ⟨lb, lo + k, none⟩) HCZL.out (show ¬ lb = wr.heap.size + 1 by have := HLB0.out; omega)).trans cz
          have HWS := Lib.hid hWs
          clear hWs
          generalize (w8.setCell ⟨wr.heap.size + 1, 0, none⟩ (.int .u8 1)).setCell ⟨wr.heap.size + 1, 1, none⟩ (.int .i32 0) = W9 at *
          have hi9 : ItemsAt W9 a8 (insIt ⟨kv, up B + 1⟩ Z).length (insIt ⟨kv, up B + 1⟩ Z) := HI8.out.1.off (F := fun x => x = wr.heap.size + 1) (fun _ y hy e => by have := HI8.out.2.2.1 y hy; have := HW7.out; have e : y.block = wr.heap.size + 1 := e; omega) HWS.out
          have ht9 : Tail W9 v7 ((left B).map Value.bool) := HI8.out.2.2.2.1.keep HWS.out.size (fun g hg => HWS.out.block g (HI8.out.2.2.2.1.lt hg) (fun e => by
            have e : g = wr.heap.size + 1 := e
            have h1 := HX.out.2.2.2.1.lt (by rw [← HI8.out.2.2.2.2]; exact hg)
            omega))
          have HI9 := Lib.hid (And.intro (hi9.keep (Below.refl _ W9).drew) (tail_below ht9 (Below.refl _ W9).drew))
          clear hi9 ht9
          have q0 := HRB.out.c0
          have q1 := HRB.out.c1
          obtain ⟨c0', c1'⟩ := (HPR.out.below HBX.out).cells (i := pl) (by rw [placeK_length]; exact hpn)
          have fz' := (HPR.out.below HBX.out).free
          have HN2 := Lib.hid (HNX.out W9.drew 1 0 _ (left B) _ _ _ (by simp [hpC, hpV, vals_length, HFF.out]) (by simp [stS, HFF.out]) (HBX.out.drew) HI9.out.1 HI8.out.2.1 (fun y hy hp => ⟨by have := HI8.out.2.2.1 y hy; have := HW7.out; have := HRB0.out; omega, .inl (by have := HI8.out.2.2.1 y hy; have := HW7.out; have := HWR.out; omega)⟩) HI9.out.2 (HI8.out.2.2.2.2.trans HX.out.2.2.2.2.1))
          go_still_tail 7, (by kernel_rfl)
          have c0 : W9.drew.cell? ⟨b, pl * 2, none⟩ = _ := c0'
          have c1 : W9.drew.cell? ⟨b, pl * 2 + 1, none⟩ = _ := c1'
          have fz : ∀ j, W9.drew.frozen? ⟨b, j, none⟩ = false := fz'
          clear c0' c1' fz' q0 q1 cz
          change wpList _ _ _ _ _ W9.drew
          generalize W9.drew = w3 at *
          go_wp2
          go_roundw
          case rel => exact ⟨k + 1, by omega, by go_num, HN2.out⟩
          case measure => simp [intOf]; omega
        · have HFF := Lib.hid hf
          have df : decide (m ≤ (Z.length : Int)) = true := by simp; omega
          have df2 : m ≤ (Z.length : Int) := by omega
          have q0w := HB0.out.c0
          have q1w := HB0.out.c1
          have fw := HB0.out.f
          have M := refMost most W
          rw [HM.out] at M
          go_wp2_with fail
          refine M.mono ?_
          clear M
          rintro e w' ⟨rfl, rfl⟩
          go_upto_region 21 with (fail)
          clear x0 x1 q0w q1w fw
          have HRB := Lib.hid (HB0.out.set2 3 0)
          have HBX := Lib.hid ((HBW.out.setCell (p := ⟨wr.heap.size + 1, 0, none⟩) (by simp) (.int .u8 3)).setCell (p := ⟨wr.heap.size + 1, 1, none⟩) (by simp) (.int .i32 0))
          have hWs := wrote2 W (wr.heap.size + 1) 0 1 (.int .u8 3) (.int .i32 0)
          have cz := (hWs.cell (p := ⟨lb, lo + k, none⟩) HCZL.out (show ¬ lb = wr.heap.size + 1 by have := HLB0.out; omega)).trans cz
          have HWS := Lib.hid hWs
          clear hWs
          generalize (W.setCell ⟨wr.heap.size + 1, 0, none⟩ (.int .u8 3)).setCell ⟨wr.heap.size + 1, 1, none⟩ (.int .i32 0) = W9 at *
          have q0 := HRB.out.c0
          have q1 := HRB.out.c1
          obtain ⟨c0', c1'⟩ := (HPR.out.below HBX.out).cells (i := pl) (by rw [placeK_length]; exact hpn)
          have fz' := (HPR.out.below HBX.out).free
          have HN2 := Lib.hid (HNX.out W9.drew 3 0 _ _ _ _ _ (by simp [hpC, hpV, vals_length, HFF.out]) (by unfold stS; rw [if_pos rfl]; exact if_neg (Int.not_lt.2 HFF.out)) (HBX.out.drew) (HX.out.1.keep HBX.out.drew) HX.out.2.1 HX.out.2.2.1 (tail_below HX.out.2.2.2.1 HBX.out.drew) HX.out.2.2.2.2.1)
          go_still_tail 7, (by kernel_rfl)
          have c0 : W9.drew.cell? ⟨b, pl * 2, none⟩ = _ := c0'
          have c1 : W9.drew.cell? ⟨b, pl * 2 + 1, none⟩ = _ := c1'
          have fz : ∀ j, W9.drew.frozen? ⟨b, j, none⟩ = false := fz'
          clear c0' c1' fz' q0 q1 cz
          change wpList _ _ _ _ _ W9.drew
          generalize W9.drew = w3 at *
          go_wp2
          go_roundw
          case rel => exact ⟨k + 1, by omega, by go_num, HN2.out⟩
          case measure => simp [intOf]; omega
      · by_cases h2 : kd = 2
        · subst h2
          cases Z with
          | nil =>
            have q0w := HB0.out.c0
            have q1w := HB0.out.c1
            have fw := HB0.out.f
            go_upto_region 21 with (fail)
            clear x0 x1 q0w q1w fw
            have HRB := Lib.hid (HB0.out.set2 4 0)
            have HBX := Lib.hid ((HBW.out.setCell (p := ⟨wr.heap.size + 1, 0, none⟩) (by simp) (.int .u8 4)).setCell (p := ⟨wr.heap.size + 1, 1, none⟩) (by simp) (.int .i32 0))
            have hWs := wrote2 W (wr.heap.size + 1) 0 1 (.int .u8 4) (.int .i32 0)
            have cz := (hWs.cell (p := ⟨lb, lo + k, none⟩) HCZL.out (show ¬ lb = wr.heap.size + 1 by have := HLB0.out; omega)).trans cz
            have HWS := Lib.hid hWs
            clear hWs
            generalize (W.setCell ⟨wr.heap.size + 1, 0, none⟩ (.int .u8 4)).setCell ⟨wr.heap.size + 1, 1, none⟩ (.int .i32 0) = W9 at *
            have q0 := HRB.out.c0
            have q1 := HRB.out.c1
            obtain ⟨c0', c1'⟩ := (HPR.out.below HBX.out).cells (i := pl) (by rw [placeK_length]; exact hpn)
            have fz' := (HPR.out.below HBX.out).free
            have HN2 := Lib.hid (HNX.out W9.drew 4 0 _ _ _ _ _ (by simp [hpC, hpV, vals]) (by simp [stS]) (HBX.out.drew) (HX.out.1.keep HBX.out.drew) HX.out.2.1 HX.out.2.2.1 (tail_below HX.out.2.2.2.1 HBX.out.drew) HX.out.2.2.2.2.1)
            go_still_tail 7, (by kernel_rfl)
            have c0 : W9.drew.cell? ⟨b, pl * 2, none⟩ = _ := c0'
            have c1 : W9.drew.cell? ⟨b, pl * 2 + 1, none⟩ = _ := c1'
            have fz : ∀ j, W9.drew.frozen? ⟨b, j, none⟩ = false := fz'
            clear c0' c1' fz' q0 q1 cz
            change wpList _ _ _ _ _ W9.drew
            generalize W9.drew = w3 at *
            go_wp2
            go_roundw
            case rel => exact ⟨k + 1, by omega, by go_num, HN2.out⟩
            case measure => simp [intOf]; omega
          | cons i Z =>
            have HIL := Lib.hid (HX.out.1.lt (by simp))
            have q0w := HB0.out.c0
            have q1w := HB0.out.c1
            have fw := HB0.out.f
            have hI := HX.out.1.keep HBW.out
            obtain ⟨ib, io, hao, il, ic⟩ := hI.2 (by simp)
            have y9 := ic 0 (.int .i32 i.v) rfl
            rw [Nat.add_zero] at y9
            subst hao
            have HDR := Lib.hid (items_drop1 (b := ib) (off := io) hI rfl)
            have hcap := HX.out.2.1
            have HIP := Lib.hid (HX.out.2.2.1 ⟨ib, io, none⟩ rfl (by simp))
            simp only [List.length_cons] at hcap hZl ⊢
            obtain ⟨r, hr⟩ : ∃ r, Z.length = r := ⟨_, rfl⟩
            have HRL := Lib.hid hr
            rw [hr] at hcap hZl HDR ⊢
            clear hr hI ic il
            have HCAP := Lib.hid hcap
            have g1 : ((r : Int) + 1 == 0) = false := by simp; omega
            have g2 : (0 : Int) < (r : Int) + 1 := by omega
            have g3 : (1 : Int) ≤ (r : Int) + 1 := by omega
            have g4 : (r : Int) + 1 ≤ c0 := by omega
            by_cases hc1 : c0 = 1
            · obtain rfl : r = 0 := by omega
              subst hc1
              have hZ0 : Z = [] := List.eq_nil_of_length_eq_zero HRL.out
              subst hZ0
              go_upto_region 21 with (fail)
              clear x0 x1 q0w q1w fw y9
              have HRB := Lib.hid (HB0.out.set2 2 i.v)
              have HBX := Lib.hid ((HBW.out.setCell (p := ⟨wr.heap.size + 1, 0, none⟩) (by simp) (.int .u8 2)).setCell (p := ⟨wr.heap.size + 1, 1, none⟩) (by simp) (.int .i32 i.v))
              have hWs := wrote2 W (wr.heap.size + 1) 0 1 (.int .u8 2) (.int .i32 i.v)
              have cz := (hWs.cell (p := ⟨lb, lo + k, none⟩) HCZL.out (show ¬ lb = wr.heap.size + 1 by have := HLB0.out; omega)).trans cz
              have HWS := Lib.hid hWs
              clear hWs
              generalize (W.setCell ⟨wr.heap.size + 1, 0, none⟩ (.int .u8 2)).setCell ⟨wr.heap.size + 1, 1, none⟩ (.int .i32 i.v) = W9 at *
              have q0 := HRB.out.c0
              have q1 := HRB.out.c1
              obtain ⟨c0', c1'⟩ := (HPR.out.below HBX.out).cells (i := pl) (by rw [placeK_length]; exact hpn)
              have fz' := (HPR.out.below HBX.out).free
              have HN2 := Lib.hid (HNX.out W9.drew 2 i.v ([] : List It) B (some ⟨ib, io, none⟩) 0 _ (by simp [hpC, hpV, vals]) (by simp [stS]) (HBX.out.drew) (ItemsAt.nil _ _) (by simp) (fun y hy hp => by simp at hp) (tail_below HX.out.2.2.2.1 HBX.out.drew) HX.out.2.2.2.2.1)
              go_still_tail 7, (by kernel_rfl)
              have c0 : W9.drew.cell? ⟨b, pl * 2, none⟩ = _ := c0'
              have c1 : W9.drew.cell? ⟨b, pl * 2 + 1, none⟩ = _ := c1'
              have fz : ∀ j, W9.drew.frozen? ⟨b, j, none⟩ = false := fz'
              clear c0' c1' fz' q0 q1 cz
              change wpList _ _ _ _ _ W9.drew
              generalize W9.drew = w3 at *
              go_wp2
              go_roundw
              case rel => exact ⟨k + 1, by omega, by go_num, HN2.out⟩
              case measure => simp [intOf]; omega
            · go_upto_region 21 with (fail)
              clear x0 x1 q0w q1w fw y9
              have HRB := Lib.hid (HB0.out.set2 2 i.v)
              have HBX := Lib.hid ((HBW.out.setCell (p := ⟨wr.heap.size + 1, 0, none⟩) (by simp) (.int .u8 2)).setCell (p := ⟨wr.heap.size + 1, 1, none⟩) (by simp) (.int .i32 i.v))
              have hWs := wrote2 W (wr.heap.size + 1) 0 1 (.int .u8 2) (.int .i32 i.v)
              have cz := (hWs.cell (p := ⟨lb, lo + k, none⟩) HCZL.out (show ¬ lb = wr.heap.size + 1 by have := HLB0.out; omega)).trans cz
              have HWS := Lib.hid hWs
              clear hWs
              generalize (W.setCell ⟨wr.heap.size + 1, 0, none⟩ (.int .u8 2)).setCell ⟨wr.heap.size + 1, 1, none⟩ (.int .i32 i.v) = W9 at *
              have hne : HIP.out.1 = HIP.out.1 := rfl
              have HIB := Lib.hid (show ¬ ib = wr.heap.size + 1 from by have := HIL.out _ rfl; simp only at this; omega)
              have hI9 : ItemsAt W9 (some ⟨ib, io + 2, none⟩) r Z := HDR.out.off (F := fun x => x = wr.heap.size + 1) (fun _ y hy e => by injection hy with hy; subst hy; exact HIB.out e) HWS.out
              have HI9 := Lib.hid (hI9.keep (Below.refl _ W9).drew)
              clear hI9 hne
              have q0 := HRB.out.c0
              have q1 := HRB.out.c1
              obtain ⟨c0', c1'⟩ := (HPR.out.below HBX.out).cells (i := pl) (by rw [placeK_length]; exact hpn)
              have fz' := (HPR.out.below HBX.out).free
              have HN2 := Lib.hid (by have h9 := HNX.out W9.drew 2 i.v Z B (some ⟨ib, io + 2, none⟩) (c0 - 1) _ (by simp [hpC, hpV, vals]) (by simp [stS]) (HBX.out.drew) (by rw [HRL.out]; exact HI9.out) (by rw [HRL.out]; have := HCAP.out; omega) (fun y hy hp => by injection hy with hy; subst hy; exact HIP.out) (tail_below HX.out.2.2.2.1 HBX.out.drew) HX.out.2.2.2.2.1; rw [HRL.out] at h9; exact h9)
              go_still_tail 7, (by kernel_rfl)
              have c0 : W9.drew.cell? ⟨b, pl * 2, none⟩ = _ := c0'
              have c1 : W9.drew.cell? ⟨b, pl * 2 + 1, none⟩ = _ := c1'
              have fz : ∀ j, W9.drew.frozen? ⟨b, j, none⟩ = false := fz'
              clear c0' c1' fz' q0 q1 cz
              change wpList _ _ _ _ _ W9.drew
              generalize W9.drew = w3 at *
              go_wp2
              go_roundw
              case rel => exact ⟨k + 1, by omega, by go_num, HN2.out⟩
              case measure => simp [intOf]; omega
        · have HRB := HB0
          have HBX := HBW
          have d1 : (kd == 1) = false := by simpa using h1
          have d2 : (kd == 2) = false := by simpa using h2
          go_upto_region 21 with (fail)
          clear d1 d2 x0 x1
          have q0 := HRB.out.c0
          have q1 := HRB.out.c1
          obtain ⟨c0', c1'⟩ := (HPR.out.below HBX.out).cells (i := pl) (by rw [placeK_length]; exact hpn)
          have fz' := (HPR.out.below HBX.out).free
          have HN2 := Lib.hid (HNX.out W.drew 5 0 _ _ _ _ _ (by simp [hpC, hpV, h1, h2]) (by simp [stS, h1, h2]) (HBX.out.drew) (HX.out.1.keep HBX.out.drew) HX.out.2.1 HX.out.2.2.1 (tail_below HX.out.2.2.2.1 HBX.out.drew) HX.out.2.2.2.2.1)
          go_still_tail 7, (by kernel_rfl)
          have c0 : W.drew.cell? ⟨b, pl * 2, none⟩ = _ := c0'
          have c1 : W.drew.cell? ⟨b, pl * 2 + 1, none⟩ = _ := c1'
          have fz : ∀ j, W.drew.frozen? ⟨b, j, none⟩ = false := fz'
          clear c0' c1' fz' q0 q1 cz
          change wpList _ _ _ _ _ W.drew
          generalize W.drew = w3 at *
          go_wp2
          go_roundw
          case rel => exact ⟨k + 1, by omega, by go_num, HN2.out⟩
          case measure => simp [intOf]; omega
    · obtain rfl : k = n := by omega
      have HF := Lib.hid (hr.done HL.out HB.out)
      clear hr hlt
      go_wp2
      exact bodyPost_ret (v := .tuple #[_, _, _]) (by simp [results, Tryz.results36, go_sem]) rfl HF.out

end Go.Proofs.YtniefplgijpckaaGreat
