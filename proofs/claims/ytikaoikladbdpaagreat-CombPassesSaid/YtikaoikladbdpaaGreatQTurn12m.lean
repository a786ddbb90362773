/-
  Operations one behind the other, by package object, at a stack and at a deque; the holders' batches told alike. Conditions: a stack, a deque as their own texts say; operations that lie in memory, beside it, at most a million.
-/
import Derived.Test.YtikaoikladbdpaaGreatG1916
namespace Go.Proofs.YtikaoikladbdpaaGreat
open Go.RowKit Go.Lib

def HBat (ST : World → (Nat → Prop) → Nat → Int → List Int → Prop) (k : Int) (w : World) (F : Nat → Prop) (p : Nat) (m : Int) (zs : List Int) (os : List (Int × Int)) (e : Ending) (w' : World) : Prop :=
  ∃ b F', e = .returned (.slice (some ⟨b, 0, none⟩) os.length os.length) ∧ RRow w' b (batT k m zs os) ∧ ST w' F' p m (batZ k m zs os) ∧ Wrote F w w' ∧ Later F F' w ∧ w.heap.size ≤ b ∧ ¬ F' b
theorem HBat.from {ST : World → (Nat → Prop) → Nat → Int → List Int → Prop} {k m : Int} {w W w' : World} {F : Nat → Prop} {p : Nat} {zs : List Int} {os : List (Int × Int)} {e : Ending} (hb : Below w.heap.size w W) (h : HBat ST k W F p m zs os e w') : HBat ST k w F p m zs os e w' := by
  obtain ⟨b, F', he, r, s, wr, l, g, hn⟩ := h
  exact ⟨b, F', he, r, s, (Wrote.of hb F).trans wr, fun g hg => (l g hg).imp id (fun h => Nat.le_trans hb.size h), Nat.le_trans hb.size g, hn⟩

def TurnAt (ST : World → (Nat → Prop) → Nat → Int → List Int → Prop) (w1 : World) (F : Nat → Prop) (p : Nat) (m : Int) (b : Nat) (zs : List Int) (rs : List (Int × Int)) (wr : World) : Prop :=
  ∃ F', ST wr F' p m zs ∧ RRow wr b rs ∧ ¬ F' b ∧ Wrote (fun g => F g ∨ g = b) w1 wr ∧ Later F F' w1

section
variable {w w1 wr w2 W : World} {F F' : Nat → Prop} {p b n : Nat} {m : Int} {zs zs' : List Int} {rs : List (Int × Int)} {os : List (Int × Int)} {ao : Option Addr}
theorem turn_ops (h : OpsAt w1 ao n os) (hn : 0 < n → Off F ao) (hb : 0 < n → ∀ x, ao = some x → x.block ≠ b) (hw : Wrote (fun g => F g ∨ g = b) w1 wr) : OpsAt wr ao n os :=
  ops_kept h (fun hp a ha e => e.elim (hn hp a ha) (hb hp a ha)) hw


theorem K9.turnPut {k : Nat} {c x : Int} (r : RRow W b rs) (hF : ¬ F' b) (hw : Wrote (fun g => F g ∨ g = b) w1 W) (lF : Later F F' w1) (d : K9.Did F' p m zs' W w2) :
    RRow w2 b rs ∧ TurnAt K9.Stk w1 F p m b zs' (rs.set k (c, x)) ((w2.setCell ⟨b, k * 2, none⟩ (.int .u8 c)).setCell ⟨b, k * 2 + 1, none⟩ (.int .i32 x)) := by
  obtain ⟨F2, h1, h4, h5⟩ := d
  have r2 : RRow w2 b rs := (h4.block b r.lt hF).trans r
  have k1 : ¬ F2 b := Later.not h5 hF r.lt
  have hw2 : Wrote (fun g => F g ∨ g = b) w1 w2 := hw.step (F' := F') (fun g hg => (lF g hg).imp .inl id) h4
  exact ⟨r2, F2, h1.apart (wrote2 w2 b _ _ _ _) (fun g a e => k1 (e ▸ a)), r2.set2 k c x, k1, hw2.trans ((wrote2 w2 b _ _ _ _).into (fun g hg => .inr hg)), lF.trans h5 hw.size⟩

theorem D10.turnPut {k : Nat} {c x : Int} (r : RRow W b rs) (hF : ¬ F' b) (hw : Wrote (fun g => F g ∨ g = b) w1 W) (lF : Later F F' w1) (d : D10.Did F' p m zs' W w2) :
    RRow w2 b rs ∧ TurnAt D10.Rng w1 F p m b zs' (rs.set k (c, x)) ((w2.setCell ⟨b, k * 2, none⟩ (.int .u8 c)).setCell ⟨b, k * 2 + 1, none⟩ (.int .i32 x)) := by
  obtain ⟨F2, h1, h4, h5⟩ := d
  have r2 : RRow w2 b rs := (h4.block b r.lt hF).trans r
  have k1 : ¬ F2 b := Later.not h5 hF r.lt
  have hw2 : Wrote (fun g => F g ∨ g = b) w1 w2 := hw.step (F' := F') (fun g hg => (lF g hg).imp .inl id) h4
  exact ⟨r2, F2, h1.apart (wrote2 w2 b _ _ _ _) (fun g a e => k1 (e ▸ a)), r2.set2 k c x, k1, hw2.trans ((wrote2 w2 b _ _ _ _).into (fun g hg => .inr hg)), lF.trans h5 hw.size⟩
end

section
variable {w : World} {F : Nat → Prop} {p n : Nat} {m : Int} {zs : List Int} {os : List (Int × Int)}
set_option maxRecDepth 100000 in
set_option maxHeartbeats 16000000 in
theorem K9.inTurn (h : K9.Stk w F p m zs) (ao : Option Addr) (cap : Nat) (ho : OpsAt w ao n os) (hoF : 0 < n → Off F ao) (hok : ∀ o ∈ os, OpOk o) (hn : n ≤ 1000000) :
    Calls Tryz.prog 159 #[.slice ao n cap, .func (Fn.func 160) #[.pointer (some ⟨p, 0, none⟩)] #[]] w (HBat K9.Stk 1 w F p m zs os) := by
  obtain ⟨j0, hj, hy0, hy1, hy2⟩ := info_parts infoRes
  have HF := Lib.hid h.foot
  have H := Lib.hid h
  have HO := Lib.hid ho
  have HOF := Lib.hid hoF
  have HK := Lib.hid hok
  have HL := Lib.hid ho.1
  clear h ho hoF hok
  go_enter Tryz.func159, Tryz.ntmps159
  go_wp2_with (at_make; refine wpList_make_full _ rfl _ _ 69 rfl w.heap.size 74 j0 _ 2 Tryz.underlying69 hj hy0 hy1 .i64 .i64 _ _ n rfl rfl rfl rfl (by rw [hy2]; omega) (by simp only [maxLen]; omega) (Nat.le_refl _) ?_; intro w1 hown1 hgrow1; have HM := Lib.hid (madeRes hown1 hgrow1); clear hown1 hgrow1)
  have HB := Lib.hid HM.out.2
  have HI := Lib.hid (show TurnAt K9.Stk w1 F p m w.heap.size (runZ 1 m zs (os.take 0)) (turnR 1 m zs os n 0) w1 from
    ⟨F, H.out.fresh HB.out, by rw [turnR_none]; exact HM.out.1, fun e => by have := HF.out _ e; omega, Wrote.refl _ _, Later.refl _ _⟩)
  have HO1 := Lib.hid (HO.out.keep HB.out)
  have HOL := Lib.hid (show 0 < n → ∀ x, ao = some x → x.block ≠ w.heap.size from fun hp x hx => by
    obtain ⟨b, off, e, hbl, _⟩ := HO.out.2 hp
    rw [e] at hx
    injection hx with hx
    subst hx
    exact Nat.ne_of_lt hbl)
  clear HM H HO hj hy0 hy1 hy2
  generalize hgt : w.heap.size = b at *
  have HGT := Lib.hid hgt
  clear hgt
  go_loopw [13] (fun i wr => ∃ k : Nat, k ≤ n ∧ i = .int .i64 k ∧ Hid (TurnAt K9.Stk w1 F p m b (runZ 1 m zs (os.take k)) (turnR 1 m zs os n k) wr)) (fun i _ => n - (intOf i).toNat)
  case atStart => exact ⟨0, Nat.zero_le _, rfl, HI⟩
  case round =>
    obtain ⟨k, hk, rfl, HR⟩ := hrel
    clear HI
    by_cases hlt : k < n
    · obtain ⟨F', s1, rr, nF, hw, lF⟩ := HR.out
      have hok := turn_ops HO1.out HOF.out HOL.out hw
      obtain ⟨bo, off, rfl, bol, hc⟩ := hok.2 (by omega)
      obtain ⟨x0, x1⟩ := hc k hlt
      have hop := ok_at HK.out (i := k) (by rw [HL.out]; exact hlt)
      have HZN := Lib.hid (run_step (k := 1) (m := m) (zs := zs) (os := os) (j := k) (by rw [HL.out]; exact hlt))
      have HRN := Lib.hid (turnR_next (k := 1) (m := m) (zs := zs) HL.out hlt)
      obtain ⟨kd, hkd⟩ : ∃ x, (os.getD k (0, 0)).1 = x := ⟨_, rfl⟩
      obtain ⟨kv, hkv⟩ : ∃ x, (os.getD k (0, 0)).2 = x := ⟨_, rfl⟩
      have HOP := Lib.hid hop
      rw [hkd] at x0
      rw [hkv] at x1
      rw [hkd, hkv] at HZN
      rw [hkd] at HRN
      have HKD := Lib.hid hkd
      clear hok hc hop hkd hkv
      obtain ⟨Z, hZ⟩ : ∃ Z, runZ 1 m zs (os.take k) = Z := ⟨_, rfl⟩
      rw [hZ] at s1 HZN HRN
      have i1 : (k : Int) < n := by omega
      have HBX := Lib.hid (show Below wr.heap.size wr (wr.alloc (.cells #[.int .u8 kd, .int .i32 kv] 38)) from (Below.refl _ _).alloc (Nat.le_refl _) _)
      have o0 := (OBox.new wr kd kv).c0
      have o1 := (OBox.new wr kd kv).c1
      have C := Lib.hid (show Calls Tryz.prog 160 #[.pointer (some ⟨p, 0, none⟩), .agg #[.int .u8 kd, .int .i32 kv]] (wr.alloc (.cells #[.int .u8 kd, .int .i32 kv] 38)) (fun e w' => e = .returned (.agg #[.int .u8 (objC 1 m Z kd), .int .i32 (objV 1 Z kd)]) ∧ K9.Did F' p m (objL 1 m Z kd kv) (wr.alloc (.cells #[.int .u8 kd, .int .i32 kv] 38)) w') from K9.doAny (s1.fresh HBX.out) kd kv (by have := HOP.out.1.1; rw [HKD.out] at this; exact this) (by have := HOP.out.1.2; rw [HKD.out] at this; exact this))
      have HN := Lib.hid (fun w2 (d : K9.Did F' p m (objL 1 m Z kd kv) (wr.alloc (.cells #[.int .u8 kd, .int .i32 kv] 38)) w2) => K9.turnPut (k := k) (c := objC 1 m Z kd) (x := objV 1 Z kd) (rr.below HBX.out) nF (hw.trans (Wrote.of HBX.out _)) lF d)
      have HRL := Lib.hid (turnR_length (k := 1) (m := m) (zs := zs) HL.out hk)
      clear s1 rr nF hw lF hZ HR HOP HKD
      go_wp2_with fail
      refine C.out.mono ?_
      clear C o0 o1
      rintro e w2 ⟨rfl, d⟩
      obtain ⟨r2, hn2⟩ := HN.out w2 d
      have HNx := Lib.hid hn2
      obtain ⟨c0, c1⟩ := r2.cells (i := k) (by rw [HRL.out]; exact hlt)
      have fz := r2.free
      clear d hn2 r2 HN x0 x1
      go_wp2
      go_roundw
      case rel => exact ⟨k + 1, by omega, by go_num, Lib.hid (by rw [HZN.out, ← HRN.out]; exact HNx.out)⟩
      case measure => simp [intOf]; omega
    · obtain rfl : k = n := by omega
      have HE := Lib.hid (show HBat K9.Stk 1 w F p m zs os (.returned (.slice (some ⟨b, 0, none⟩) k k)) wr from by
        obtain ⟨F', s1, rr, nF, hw, lF⟩ := HR.out
        have hL := HL.out
        subst hL
        rw [turnR_all rfl] at rr
        rw [List.take_length] at s1
        have hs := HB.out.size
        refine ⟨b, F', rfl, by rw [batT_plain (by decide)]; exact rr, by rw [batZ_plain (by decide)]; exact s1, (Wrote.of (show Below w.heap.size w w1 by rw [HGT.out]; exact HB.out) F).step (F' := fun g => F g ∨ g = b) (fun g hg => hg.imp id (fun e => by rw [e, HGT.out]; exact Nat.le_refl _)) hw, fun g hg => (lF g hg).imp id (fun (h : w1.heap.size ≤ g) => show w.heap.size ≤ g by omega), by rw [HGT.out]; exact Nat.le_refl _, nF⟩)
      clear HR
      go_wp2
      go_ret
      exact HE.out

set_option maxRecDepth 100000 in
set_option maxHeartbeats 1600000 in
theorem pileEach (h : K9.Stk w F p m zs) (c : Value) (ao : Option Addr) (cap : Nat) (ho : OpsAt w ao n os) (hoF : 0 < n → Off F ao) (hok : ∀ o ∈ os, OpOk o) (hn : n ≤ 1000000) :
    Calls Tryz.prog 157 #[.agg #[.pointer (some ⟨p, 0, none⟩)], c, .slice ao n cap] w (HBat K9.Stk 1 w F p m zs os) := by
  have HX := Lib.hid (fun W (hb : Below w.heap.size w W) => (K9.inTurn (h.fresh hb) ao cap (ho.keep hb) hoF hok hn).mono fun e w' hp => HBat.from hb hp)
  clear h ho hoF hok hn
  go_enter Tryz.func157, Tryz.ntmps157
  go_upto_region 1 with (fail)
  generalize hW : w.alloc (.cells #[.pointer (some ⟨p, 0, none⟩)] 135) = W
  obtain ⟨hb, c0⟩ := holdBox w p _ W hW
  have C := HX.out W hb
  clear HX hW hb
  go_wp2_with fail
  refine C.mono ?_
  clear C c0
  rintro e w1 hp
  have HP := Lib.hid hp
  obtain ⟨gt, F', rfl, _⟩ := hp
  go_wp2
  go_ret
  exact HP.out

theorem pileDoes (h : K9.Stk w F p m zs) (c : Value) (ao : Option Addr) (cap : Nat) (ho : OpsAt w ao n os) (hoF : 0 < n → Off F ao) (hn : n ≤ 1000000) :
    Calls Tryz.prog 156 #[.agg #[.pointer (some ⟨p, 0, none⟩)], c, .slice ao n cap] w (HBat K9.Stk 1 w F p m zs os) := by
  refine (pileBatch h c ao cap ho hoF hn).mono fun e w' hp => ?_
  have hl := ho.1
  subst hl
  obtain ⟨gt, F', he, r, s, wr, l, g, hnn⟩ := hp
  obtain ⟨e1, e2⟩ := K9.told_bat (m := m) (zs := zs) (os := os) rfl
  rw [e1] at r
  rw [e2] at s
  exact ⟨gt, F', he, r, s, wr, l, g, hnn⟩
end

section
variable {w : World} {F : Nat → Prop} {p n : Nat} {m : Int} {zs : List Int} {os : List (Int × Int)}
set_option maxRecDepth 100000 in
set_option maxHeartbeats 16000000 in
theorem D10.inTurn (h : D10.Rng w F p m zs) (ao : Option Addr) (cap : Nat) (ho : OpsAt w ao n os) (hoF : 0 < n → Off F ao) (hok : ∀ o ∈ os, OpOk o) (hn : n ≤ 1000000) :
    Calls Tryz.prog 159 #[.slice ao n cap, .func (Fn.func 184) #[.pointer (some ⟨p, 0, none⟩)] #[]] w (HBat D10.Rng 2 w F p m zs os) := by
  obtain ⟨j0, hj, hy0, hy1, hy2⟩ := info_parts infoRes
  have HF := Lib.hid h.foot
  have H := Lib.hid h
  have HO := Lib.hid ho
  have HOF := Lib.hid hoF
  have HK := Lib.hid hok
  have HL := Lib.hid ho.1
  clear h ho hoF hok
  go_enter Tryz.func159, Tryz.ntmps159
  go_wp2_with (at_make; refine wpList_make_full _ rfl _ _ 69 rfl w.heap.size 74 j0 _ 2 Tryz.underlying69 hj hy0 hy1 .i64 .i64 _ _ n rfl rfl rfl rfl (by rw [hy2]; omega) (by simp only [maxLen]; omega) (Nat.le_refl _) ?_; intro w1 hown1 hgrow1; have HM := Lib.hid (madeRes hown1 hgrow1); clear hown1 hgrow1)
  have HB := Lib.hid HM.out.2
  have HI := Lib.hid (show TurnAt D10.Rng w1 F p m w.heap.size (runZ 2 m zs (os.take 0)) (turnR 2 m zs os n 0) w1 from
    ⟨F, H.out.fresh HB.out, by rw [turnR_none]; exact HM.out.1, fun e => by have := HF.out _ e; omega, Wrote.refl _ _, Later.refl _ _⟩)
  have HO1 := Lib.hid (HO.out.keep HB.out)
  have HOL := Lib.hid (show 0 < n → ∀ x, ao = some x → x.block ≠ w.heap.size from fun hp x hx => by
    obtain ⟨b, off, e, hbl, _⟩ := HO.out.2 hp
    rw [e] at hx
    injection hx with hx
    subst hx
    exact Nat.ne_of_lt hbl)
  clear HM H HO hj hy0 hy1 hy2
  generalize hgt : w.heap.size = b at *
  have HGT := Lib.hid hgt
  clear hgt
  go_loopw [13] (fun i wr => ∃ k : Nat, k ≤ n ∧ i = .int .i64 k ∧ Hid (TurnAt D10.Rng w1 F p m b (runZ 2 m zs (os.take k)) (turnR 2 m zs os n k) wr)) (fun i _ => n - (intOf i).toNat)
  case atStart => exact ⟨0, Nat.zero_le _, rfl, HI⟩
  case round =>
    obtain ⟨k, hk, rfl, HR⟩ := hrel
    clear HI
    by_cases hlt : k < n
    · obtain ⟨F', s1, rr, nF, hw, lF⟩ := HR.out
      have hok := turn_ops HO1.out HOF.out HOL.out hw
      obtain ⟨bo, off, rfl, bol, hc⟩ := hok.2 (by omega)
      obtain ⟨x0, x1⟩ := hc k hlt
      have hop := ok_at HK.out (i := k) (by rw [HL.out]; exact hlt)
      have HZN := Lib.hid (run_step (k := 2) (m := m) (zs := zs) (os := os) (j := k) (by rw [HL.out]; exact hlt))
      have HRN := Lib.hid (turnR_next (k := 2) (m := m) (zs := zs) HL.out hlt)
      obtain ⟨kd, hkd⟩ : ∃ x, (os.getD k (0, 0)).1 = x := ⟨_, rfl⟩
      obtain ⟨kv, hkv⟩ : ∃ x, (os.getD k (0, 0)).2 = x := ⟨_, rfl⟩
      have HOP := Lib.hid hop
      rw [hkd] at x0
      rw [hkv] at x1
      rw [hkd, hkv] at HZN
      rw [hkd] at HRN
      have HKD := Lib.hid hkd
      clear hok hc hop hkd hkv
      obtain ⟨Z, hZ⟩ : ∃ Z, runZ 2 m zs (os.take k) = Z := ⟨_, rfl⟩
      rw [hZ] at s1 HZN HRN
      have i1 : (k : Int) < n := by omega
      have HBX := Lib.hid (show Below wr.heap.size wr (wr.alloc (.cells #[.int .u8 kd, .int .i32 kv] 38)) from (Below.refl _ _).alloc (Nat.le_refl _) _)
      have o0 := (OBox.new wr kd kv).c0
      have o1 := (OBox.new wr kd kv).c1
      have C := Lib.hid (show Calls Tryz.prog 184 #[.pointer (some ⟨p, 0, none⟩), .agg #[.int .u8 kd, .int .i32 kv]] (wr.alloc (.cells #[.int .u8 kd, .int .i32 kv] 38)) (fun e w' => e = .returned (.agg #[.int .u8 (objC 2 m Z kd), .int .i32 (objV 2 Z kd)]) ∧ D10.Did F' p m (objL 2 m Z kd kv) (wr.alloc (.cells #[.int .u8 kd, .int .i32 kv] 38)) w') from D10.doAny (s1.fresh HBX.out) kd kv)
      have HN := Lib.hid (fun w2 (d : D10.Did F' p m (objL 2 m Z kd kv) (wr.alloc (.cells #[.int .u8 kd, .int .i32 kv] 38)) w2) => D10.turnPut (k := k) (c := objC 2 m Z kd) (x := objV 2 Z kd) (rr.below HBX.out) nF (hw.trans (Wrote.of HBX.out _)) lF d)
      have HRL := Lib.hid (turnR_length (k := 2) (m := m) (zs := zs) HL.out hk)
      clear s1 rr nF hw lF hZ HR HOP HKD
      go_wp2_with fail
      refine C.out.mono ?_
      clear C o0 o1
      rintro e w2 ⟨rfl, d⟩
      obtain ⟨r2, hn2⟩ := HN.out w2 d
      have HNx := Lib.hid hn2
      obtain ⟨c0, c1⟩ := r2.cells (i := k) (by rw [HRL.out]; exact hlt)
      have fz := r2.free
      clear d hn2 r2 HN x0 x1
      go_wp2
      go_roundw
      case rel => exact ⟨k + 1, by omega, by go_num, Lib.hid (by rw [HZN.out, ← HRN.out]; exact HNx.out)⟩
      case measure => simp [intOf]; omega
    · obtain rfl : k = n := by omega
      have HE := Lib.hid (show HBat D10.Rng 2 w F p m zs os (.returned (.slice (some ⟨b, 0, none⟩) k k)) wr from by
        obtain ⟨F', s1, rr, nF, hw, lF⟩ := HR.out
        have hL := HL.out
        subst hL
        rw [turnR_all rfl] at rr
        rw [List.take_length] at s1
        have hs := HB.out.size
        refine ⟨b, F', rfl, by rw [batT_plain (by decide)]; exact rr, by rw [batZ_plain (by decide)]; exact s1, (Wrote.of (show Below w.heap.size w w1 by rw [HGT.out]; exact HB.out) F).step (F' := fun g => F g ∨ g = b) (fun g hg => hg.imp id (fun e => by rw [e, HGT.out]; exact Nat.le_refl _)) hw, fun g hg => (lF g hg).imp id (fun (h : w1.heap.size ≤ g) => show w.heap.size ≤ g by omega), by rw [HGT.out]; exact Nat.le_refl _, nF⟩)
      clear HR
      go_wp2
      go_ret
      exact HE.out

set_option maxRecDepth 100000 in
set_option maxHeartbeats 1600000 in
theorem rowEach (h : D10.Rng w F p m zs) (c : Value) (ao : Option Addr) (cap : Nat) (ho : OpsAt w ao n os) (hoF : 0 < n → Off F ao) (hok : ∀ o ∈ os, OpOk o) (hn : n ≤ 1000000) :
    Calls Tryz.prog 182 #[.agg #[.pointer (some ⟨p, 0, none⟩)], c, .slice ao n cap] w (HBat D10.Rng 2 w F p m zs os) := by
  have HX := Lib.hid (fun W (hb : Below w.heap.size w W) => (D10.inTurn (h.fresh hb) ao cap (ho.keep hb) hoF hok hn).mono fun e w' hp => HBat.from hb hp)
  clear h ho hoF hok hn
  go_enter Tryz.func182, Tryz.ntmps182
  go_upto_region 1 with (fail)
  generalize hW : w.alloc (.cells #[.pointer (some ⟨p, 0, none⟩)] 139) = W
  obtain ⟨hb, c0⟩ := holdBox w p _ W hW
  have C := HX.out W hb
  clear HX hW hb
  go_wp2_with fail
  refine C.mono ?_
  clear C c0
  rintro e w1 hp
  have HP := Lib.hid hp
  obtain ⟨gt, F', rfl, _⟩ := hp
  go_wp2
  go_ret
  exact HP.out

theorem rowDoes (h : D10.Rng w F p m zs) (c : Value) (ao : Option Addr) (cap : Nat) (ho : OpsAt w ao n os) (hoF : 0 < n → Off F ao) (hn : n ≤ 1000000) :
    Calls Tryz.prog 181 #[.agg #[.pointer (some ⟨p, 0, none⟩)], c, .slice ao n cap] w (HBat D10.Rng 2 w F p m zs os) := by
  refine (rowBatch h c ao cap ho hoF hn).mono fun e w' hp => ?_
  have hl := ho.1
  subst hl
  obtain ⟨gt, F', he, r, s, wr, l, g, hnn, _⟩ := hp
  obtain ⟨e1, e2⟩ := D10.told_bat (m := m) (zs := zs) (os := os) rfl
  rw [e1] at r
  rw [e2] at s
  exact ⟨gt, F', he, r, s, wr, l, g, hnn⟩
end

end Go.Proofs.YtikaoikladbdpaaGreat
