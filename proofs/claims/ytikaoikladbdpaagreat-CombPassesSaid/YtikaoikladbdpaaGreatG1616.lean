/-
  Coins in a walk: what is known of one, or of two that know nothing of one another, between the calls. Conditions: none; no Go function is walked here. What Height and Copy of package coin do, at every coin and at nil. Conditions: a coin as Coin says. What the functions that make a holder make. Conditions: none. A skip list or none; what room, added and taken of package sorted do. Conditions: a list as Skip says, or none. What values and heights of package sorted tell: values of places, heights of a coin one behind the other. Conditions: places below the operations' number; a coin as Coin says; at most a thousand.
-/
import Derived.Test.YtikaoikladbdpaaGreatG1516
import Derived.Test.YtikaoikladbdpaaGreatG1016
import Derived.Test.YtikaoikladbdpaaGreatG1316
import Derived.Test.YtikaoikladbdpaaGreatG0816
import Derived.WalkMore
import Derived.Deep.LoopGhost
namespace Go.Proofs.YtikaoikladbdpaaGreat
open Go.RowKit

section
variable {w a b : World} {F G : Nat → Prop} {p q : Nat} {bs bs' cs : List Bool}
end

end Go.Proofs.YtikaoikladbdpaaGreat
namespace Go.Proofs.YtikaoikladbdpaaGreat
open Go.RowKit

section
variable {w : World} {F : Nat → Prop} {p : Nat} {bs : List Bool}

end

end Go.Proofs.YtikaoikladbdpaaGreat
namespace Go.Proofs.YtikaoikladbdpaaGreat
open Go.RowKit Go.Lib

def holdV (t : TypeId) (p : Nat) : Value := .iface t (.agg #[.pointer (some ⟨p, 0, none⟩)])

set_option maxRecDepth 100000 in
set_option maxHeartbeats 1600000 in
theorem holdNew1 (n : Int) (w : World) :
    Calls Tryz.prog 66 #[.int .i64 n] w fun e w' => ∃ p, e = .returned (holdV 135 p) ∧ K9.Stk w' (New w w') p (mostOf n) [] ∧ Below w.heap.size w w' := by
  have N := Lib.hid (K9.newAny n w)
  go_enter Tryz.func66, Tryz.ntmps66
  go_wp2_with fail
  refine N.out.mono ?_
  clear N
  rintro e w1 ⟨rfl, h, b⟩
  have H := Lib.hid (And.intro h b)
  clear h b
  go_wp2
  go_ret
  exact ⟨_, rfl, H.out.1, H.out.2⟩

set_option maxRecDepth 100000 in
set_option maxHeartbeats 1600000 in
theorem holdNew2 (n : Int) (w : World) :
    Calls Tryz.prog 68 #[.int .i64 n] w fun e w' => ∃ p, e = .returned (holdV 139 p) ∧ D10.Rng w' (New w w') p (mostOf n) [] ∧ Below w.heap.size w w' := by
  have N := Lib.hid (D10.newAny n w)
  go_enter Tryz.func68, Tryz.ntmps68
  go_wp2_with fail
  refine N.out.mono ?_
  clear N
  rintro e w1 ⟨q, rfl, h, b⟩
  have H := Lib.hid (And.intro h b)
  clear h b
  go_wp2
  go_ret
  exact ⟨_, rfl, H.out.1, H.out.2⟩

set_option maxRecDepth 100000 in
set_option maxHeartbeats 1600000 in
theorem holdNew3 (n : Int) (w : World) :
    Calls Tryz.prog 70 #[.int .i64 n] w fun e w' => ∃ p, e = .returned (holdV 143 p) ∧ Skip w' (New w w') p (mostOf n) [] ∧ Below w.heap.size w w' := by
  have N := Lib.hid (newS n w)
  go_enter Tryz.func70, Tryz.ntmps70
  go_wp2_with fail
  refine N.out.mono ?_
  clear N
  rintro e w1 ⟨rfl, h, b⟩
  have H := Lib.hid (And.intro h b)
  clear h b
  go_wp2
  go_ret
  exact ⟨_, rfl, H.out.1, H.out.2⟩

end Go.Proofs.YtikaoikladbdpaaGreat
namespace Go.Proofs.YtikaoikladbdpaaGreat
open Go.RowKit

def SkO (w : World) (F : Nat → Prop) (sp : Option Nat) (m : Int) (l : List It) : Prop :=
  (∀ g, F g → g < w.heap.size) ∧ match sp with
  | none => m = 0 ∧ l = []
  | some p => Skip w F p m l
def ptrS (sp : Option Nat) : Option Addr := sp.map fun p => ⟨p, 0, none⟩
def DidSO (F : Nat → Prop) (sp : Option Nat) (m : Int) (l : List It) (w w' : World) : Prop := ∃ F', SkO w' F' sp m l ∧ Wrote F w w' ∧ Later F F' w

section
variable {w w' : World} {F G : Nat → Prop} {sp : Option Nat} {p : Nat} {m : Int} {l : List It}
theorem SkO.of (h : Skip w F p m l) : SkO w F (some p) m l := ⟨h.foot, h⟩
theorem SkO.room (h : SkO w F sp m l) : (l.length : Int) ≤ m ∧ 0 ≤ m ∧ m ≤ 1000 := by
  cases sp with
  | none => obtain ⟨_, rfl, rfl⟩ := h; simp
  | some p => exact ⟨Skip.len h.2, (Skip.mo h.2).1, (Skip.mo h.2).2⟩
theorem SkO.apart (h : SkO w F sp m l) (hw : Wrote G w w') (ha : Apart F G) : SkO w' F sp m l := by
  refine ⟨fun g hg => Nat.lt_of_lt_of_le (h.1 g hg) hw.size, ?_⟩
  cases sp with
  | none => exact h.2
  | some p => exact Skip.apart h.2 hw ha
theorem SkO.fresh (h : SkO w F sp m l) (hb : Below w.heap.size w w') : SkO w' F sp m l := h.apart (Wrote.of hb (fun _ => False)) (fun _ _ h => h)
theorem wrote1 (w : World) (g i : Nat) (u : Value) : Wrote (fun k => k = g) w (w.setCell ⟨g, i, none⟩ u) := (Wrote.refl (fun k => k = g) w).setCell (q := ⟨g, i, none⟩) (Or.inr rfl) u
theorem wrote2 (w : World) (g i j : Nat) (u v : Value) : Wrote (fun k => k = g) w ((w.setCell ⟨g, i, none⟩ u).setCell ⟨g, j, none⟩ v) := (wrote1 w g i u).setCell (q := ⟨g, j, none⟩) (Or.inr rfl) v
theorem SkO.set2 (h : SkO w F sp m l) {g : Nat} (hn : ¬ F g) (u v : Value) : SkO ((w.setCell ⟨g, 0, none⟩ u).setCell ⟨g, 1, none⟩ v) F sp m l := h.apart (wrote2 w g 0 1 u v) (fun _ h1 h2 => hn (h2 ▸ h1))
theorem SkO.did (h : SkO w F sp m l) (hb : Below w.heap.size w w') : DidSO F sp m l w w' := ⟨F, h.fresh hb, Wrote.of hb F, Later.refl _ _⟩
theorem DidSO.of (d : DidS F p m l w w') : DidSO F (some p) m l w w' := by
  obtain ⟨F', h1, h2, h3⟩ := d
  exact ⟨F', SkO.of h1, h2, h3⟩
theorem lenSO (h : SkO w F sp m l) : Calls Tryz.prog 206 #[.pointer (ptrS sp)] w fun e w' => e = .returned (.int .i64 l.length) ∧ w = w' := by
  cases sp with
  | none => obtain ⟨_, _, rfl⟩ := h; exact lenNil w
  | some p => exact lenAny h.2
theorem mostSO (h : SkO w F sp m l) : Calls Tryz.prog 226 #[.pointer (ptrS sp)] w fun e w' => e = .returned (.int .i64 m) ∧ w = w' := by
  cases sp with
  | none => obtain ⟨_, rfl, _⟩ := h; exact mostNil w
  | some p => exact mostAny h.2
theorem minSO (h : SkO w F sp m l) :
    Calls Tryz.prog 232 #[.pointer (ptrS sp)] w fun e w' => e = .returned (.tuple #[.int .i32 ((vals l).headD 0), .bool (decide (l ≠ []))]) ∧ DidSO F sp m l.tail w w' := by
  cases sp with
  | none =>
    have hs := h
    obtain ⟨_, rfl, rfl⟩ := h
    exact (minNil w).mono fun e w' ⟨he, hw⟩ => ⟨he, by subst hw; exact hs.did (Below.refl _ _)⟩
  | some p =>
    refine (minAny h.2).mono fun e w' ⟨he, d⟩ => ⟨?_, DidSO.of d⟩
    rw [he]
    cases l <;> rfl

set_option maxRecDepth 100000 in
set_option maxHeartbeats 1600000 in
theorem roomSO (h : SkO w F sp m l) : Calls Tryz.prog 219 #[.pointer (ptrS sp)] w fun e w' => e = .returned (.int .i64 (m - l.length)) ∧ w = w' := by
  have L := lenSO h
  have M := mostSO h
  obtain ⟨h1, h2, h3⟩ := h.room
  have e1 : IntKind.i64.wrap (m - (l.length : Int)) = m - (l.length : Int) := by rw [IntKind.wrap_i64]; omega
  clear h
  generalize (l.length : Int) = n at *
  go_enter Tryz.func219, Tryz.ntmps219
  go_wp2_with (first | (go_at_call 226; refine M.mono ?_; rintro e w' ⟨rfl, rfl⟩) | (go_at_call 206; refine L.mono ?_; rintro e w' ⟨rfl, rfl⟩))
  go_ret
  exact ⟨rfl, rfl⟩

set_option maxRecDepth 100000 in
set_option maxHeartbeats 1600000 in
theorem addedAny (w : World) (b : Bool) : Calls Tryz.prog 220 #[.bool b] w fun e w' => e = .returned (.agg #[.int .u8 (if b then 1 else 3), .int .i32 0]) ∧ Below w.heap.size w w' := by
  cases b
  · go_enter Tryz.func220, Tryz.ntmps220
    go_wp2
    exact bodyPost_ret (v := .agg #[.int .u8 3, .int .i32 0]) (by simp [results, Tryz.results220, go_sem]) rfl ⟨rfl, by exact (Below.refl _ _).alloc (Nat.le_refl _) _⟩
  · go_enter Tryz.func220, Tryz.ntmps220
    go_wp2
    exact bodyPost_ret (v := .agg #[.int .u8 1, .int .i32 0]) (by simp [results, Tryz.results220, go_sem]) rfl ⟨rfl, by exact (Below.refl _ _).alloc (Nat.le_refl _) _⟩

theorem begunS (w : World) (k x : Int) : ∀ W, (w.alloc (.cells #[.int .u8 k, .int .i32 x] 38)).alloc (.cells #[.int .u8 0, .int .i32 0] 74) = W →
    OBox W w.heap.size k x ∧ RBox W (w.heap.size + 1) 0 0 ∧ Below w.heap.size w W ∧ W.heap.size = w.heap.size + 2 := by
  rintro W rfl
  have h := RBox.new (w.alloc (.cells #[.int .u8 k, .int .i32 x] 38)) 0 0
  refine ⟨(OBox.new w k x).alloc _, by simpa using h, ((Below.refl _ _).alloc (Nat.le_refl _) _).alloc (by simp) _, by simp⟩

set_option maxRecDepth 100000 in
set_option maxHeartbeats 3200000 in
theorem takenMin (h : SkO w F sp m l) (kv : Int) :
    Calls Tryz.prog 221 #[.pointer (ptrS sp), .agg #[.int .u8 2, .int .i32 kv]] w fun e w' => e = .returned (.agg #[.int .u8 (if l = [] then 4 else 2), .int .i32 ((vals l).headD 0)]) ∧ DidSO F sp m l.tail w w' := by
  have HH := Lib.hid h
  clear h
  go_enter Tryz.func221, Tryz.ntmps221
  go_upto_region 1 with (fail)
  generalize hW : (w.alloc (.cells #[.int .u8 2, .int .i32 kv] 38)).alloc (.cells #[.int .u8 0, .int .i32 0] 74) = W
  obtain ⟨o0, b0, hb, hs⟩ := begunS w _ _ W hW
  have c0 := o0.c0
  have HB := Lib.hid hb
  have HZ := Lib.hid b0
  clear hW hb o0 b0
  have C := Lib.hid (minSO (HH.out.fresh HB.out))
  have HL := Lib.hid (show ∀ g, F g → g < w.heap.size from HH.out.1)
  go_wp2_with fail
  refine C.out.mono ?_
  rintro e w1 ⟨rfl, d⟩
  obtain ⟨F', s1, wr, lt⟩ := d
  have b1 := HZ.out.off (F := F) (fun e => by have := HL.out _ e; omega) wr
  have HS := Lib.hid s1
  have HWr := Lib.hid ((Wrote.of HB.out F).trans wr)
  have HLt := Lib.hid (show Later F F' w from fun g hg => (lt g hg).imp id (fun h => Nat.le_trans HB.out.size h))
  have HF' := Lib.hid (show ¬ F' (w.heap.size + 1) from fun e => by
    rcases lt _ e with h | h
    · have := HL.out _ h; omega
    · omega)
  clear s1 wr lt C
  have c0 := b1.c0
  have c1 := b1.c1
  have f := b1.f
  cases l with
  | nil =>
    have r := b1.set2 4 0
    have r0 := r.c0
    have r1 := r.c1
    clear b1 r
    go_wp2
    exact bodyPost_ret (v := .agg #[.int .u8 4, .int .i32 0]) (by simp [results, Tryz.results221, go_sem, r0, r1]) rfl ⟨rfl, F', HS.out.set2 HF'.out _ _, (HWr.out.setCell (q := ⟨w.heap.size + 1, 0, none⟩) (.inl (by simp)) _).setCell (q := ⟨w.heap.size + 1, 1, none⟩) (.inl (by simp)) _, HLt.out⟩
  | cons i l =>
    have hv : (vals (i :: l)).headD 0 = i.v := rfl
    rw [hv]
    have r := b1.set2 2 i.v
    have r0 := r.c0
    have r1 := r.c1
    clear b1 r
    go_wp2
    exact bodyPost_ret (v := .agg #[.int .u8 2, .int .i32 i.v]) (by simp [results, Tryz.results221, go_sem, r0, r1]) rfl ⟨rfl, F', HS.out.set2 HF'.out _ _, (HWr.out.setCell (q := ⟨w.heap.size + 1, 0, none⟩) (.inl (by simp)) _).setCell (q := ⟨w.heap.size + 1, 1, none⟩) (.inl (by simp)) _, HLt.out⟩

set_option maxRecDepth 100000 in
set_option maxHeartbeats 3200000 in
theorem takenBad (h : SkO w F sp m l) (kd kv : Int) (h2 : ¬ kd = 2) :
    Calls Tryz.prog 221 #[.pointer (ptrS sp), .agg #[.int .u8 kd, .int .i32 kv]] w fun e w' => e = .returned (.agg #[.int .u8 5, .int .i32 0]) ∧ DidSO F sp m l w w' := by
  have HH := Lib.hid h
  clear h
  go_enter Tryz.func221, Tryz.ntmps221
  go_upto_region 1 with (fail)
  generalize hW : (w.alloc (.cells #[.int .u8 kd, .int .i32 kv] 38)).alloc (.cells #[.int .u8 0, .int .i32 0] 74) = W
  obtain ⟨o0, b0, hb, hs⟩ := begunS w _ _ W hW
  have c0 := o0.c0
  have HB := Lib.hid hb
  have HZ := Lib.hid b0
  clear hW hb o0 b0
  have d2 : (kd != 2) = true := by simpa using h2
  have c0' := HZ.out.c0
  have c1' := HZ.out.c1
  have f := HZ.out.f
  have r := HZ.out.set2 5 0
  have r0 := r.c0
  have r1 := r.c1
  clear r
  go_wp2
  exact bodyPost_ret (v := .agg #[.int .u8 5, .int .i32 0]) (by simp [results, Tryz.results221, go_sem, r0, r1]) rfl ⟨rfl, HH.out.did ((HB.out.setCell (p := ⟨w.heap.size + 1, 0, none⟩) (by simp) _).setCell (p := ⟨w.heap.size + 1, 1, none⟩) (by simp) _)⟩

theorem takenAny (h : SkO w F sp m l) (kd kv : Int) (hk : ¬ kd = 1) :
    Calls Tryz.prog 221 #[.pointer (ptrS sp), .agg #[.int .u8 kd, .int .i32 kv]] w fun e w' => e = .returned (.agg #[.int .u8 (hpC m (vals l) kd), .int .i32 (hpV (vals l) kd)]) ∧ DidSO F sp m (if kd = 2 then l.tail else l) w w' := by
  by_cases h2 : kd = 2
  · subst h2
    have := takenMin h kv
    have e : (vals l = []) = (l = []) := by simp [vals]
    simpa [hpC, hpV, e] using this
  · have := takenBad h kd kv h2
    simpa [hpC, hpV, hk, h2] using this
end

end Go.Proofs.YtikaoikladbdpaaGreat
namespace Go.Proofs.YtikaoikladbdpaaGreat
open Go.RowKit

def rowK (xs : List Int) (n k : Nat) : List Int := xs.take k ++ List.replicate (n - k) 0
theorem rowK_none (xs : List Int) (n : Nat) : rowK xs n 0 = List.replicate n 0 := by simp [rowK]
theorem rowK_all {xs : List Int} {n : Nat} (h : xs.length = n) : rowK xs n n = xs := by unfold rowK; rw [List.take_of_length_le (by omega)]; simp
theorem rowK_length {xs : List Int} {n k : Nat} (h : xs.length = n) (hk : k ≤ n) : (rowK xs n k).length = n := by unfold rowK; simp; omega
theorem rowK_put {xs : List Int} {n k : Nat} (h : xs.length = n) (hk : k < n) : (rowK xs n k).set k (xs.getD k 0) = rowK xs n (k + 1) := by
  unfold rowK
  have hl : (xs.take k).length = k := by simp; omega
  rw [List.set_append_right _ _ (by omega), hl, Nat.sub_self, show n - k = (n - (k + 1)) + 1 by omega, List.replicate_succ, List.set_cons_zero, List.take_succ_eq_append_getElem (show k < xs.length by omega), List.append_assoc]
  have e : xs.getD k 0 = xs[k] := by simp [List.getD, show k < xs.length by omega]
  rw [e]
  rfl

theorem infoI : (Tryz.prog.info? 3).map (fun i => (i.zero, i.size, i.bytes)) = some (some (.int .i64 0), 1, 8) := infoInt

def ValsPost (w : World) (zs : List Int) (n : Nat) (e : Ending) (w' : World) : Prop :=
  e = .returned (.slice (some ⟨w.heap.size, 0, none⟩) n n) ∧ Rw w' w.heap.size .i32 21 zs ∧ Below w.heap.size w w'

set_option maxRecDepth 100000 in
set_option maxHeartbeats 4000000 in
theorem valuesAny (w : World) (ao al : Option Addr) (n cap k cl : Nat) (os : List (Int × Int)) (A : List Int) (ho : OpsAt w ao n os) (hA : Reads .i64 w al k A) (hin : ∀ x ∈ A, 0 ≤ x ∧ x < (n : Int)) (hn : n ≤ 1000) (hk : k ≤ 1000) :
    Calls Tryz.prog 217 #[.slice ao n cap, .slice al k cl] w (ValsPost w (A.map (keyOf os)) k) := by
  obtain ⟨i0, hi, hz0, hz1, hz2⟩ := info_parts infoI32
  have HO := Lib.hid ho
  have HA := Lib.hid hA
  have HI := Lib.hid hin
  have HL := Lib.hid (show (A.map (keyOf os)).length = k by rw [List.length_map]; exact hA.1)
  clear ho hA hin
  go_enter Tryz.func217, Tryz.ntmps217
  go_upto_region 2 with (at_make; refine wpList_make_full _ rfl _ _ 59 rfl w.heap.size 21 i0 _ 1 Tryz.underlying59 hi hz0 hz1 .i64 .i64 _ _ k rfl rfl rfl rfl (by rw [hz2]; omega) (by simp only [maxLen]; omega) (Nat.le_refl _) ?_; intro w1 hown1 hgrow1; have HM := Lib.hid (madeRow hown1 hgrow1); clear hown1 hgrow1)
  generalize hb : w.heap.size = b at *
  have HB := Lib.hid hb
  have HS := Lib.hid (show Rw w1 b .i32 21 (rowK (A.map (keyOf os)) k 0) ∧ Below w.heap.size w w1 from ⟨by rw [rowK_none]; exact HM.out.1, by rw [hb]; exact HM.out.2⟩)
  clear HM hb
  go_wp2_with fail
  go_loopw [13] (fun i wr => ∃ q : Nat, q ≤ k ∧ i = .int .i64 q ∧ Rw wr b .i32 21 (rowK (A.map (keyOf os)) k q) ∧ Below w.heap.size w wr) (fun i _ => k - (intOf i).toNat)
  case atStart => exact ⟨0, Nat.zero_le _, rfl, HS.out⟩
  case round =>
    obtain ⟨q, hq, rfl, hr, hbe⟩ := hrel
    clear HS
    by_cases hlt : q < k
    · obtain ⟨lb, lo, rfl, ll, lc⟩ := HA.out.2 (by omega)
      have cz := (hbe.cell (p := ⟨lb, lo + q, none⟩) ll).trans (lc q hlt)
      obtain ⟨z, hz⟩ : ∃ z, A.getD q 0 = z := ⟨_, rfl⟩
      have hzb := HI.out _ (getD_mem (l := A) (k := q) (by rw [HA.out.1]; exact hlt) 0)
      rw [hz] at cz hzb
      obtain ⟨p, rfl⟩ : ∃ p : Nat, z = p := ⟨z.toNat, by omega⟩
      have hpn : p < n := by omega
      obtain ⟨bo, off, rfl, bol, hc⟩ := HO.out.2 (by omega)
      have y1 := (hbe.cell (p := ⟨bo, off + p * 2 + 1, none⟩) bol).trans (hc p hpn).2
      have ev : (A.map (keyOf os)).getD q 0 = (os.getD p (0, 0)).2 := by
        have : (A.map (keyOf os)).getD q 0 = keyOf os (A.getD q 0) := by simp [List.getD, show q < A.length by rw [HA.out.1]; exact hlt]
        rw [this, hz]
        simp [keyOf]
      have hput := hr.set q ((A.map (keyOf os)).getD q 0)
      rw [rowK_put HL.out hlt, ev] at hput
      generalize (os.getD p (0, 0)).2 = kv at *
      have c0 := hr.cell (i := q) (by rw [rowK_length HL.out (by omega)]; exact hlt)
      have fz := hr.free
      have HQ := Lib.hid (show Rw (wr.setCell ⟨b, q, none⟩ (.int .i32 kv)) b .i32 21 (rowK (A.map (keyOf os)) k (q + 1)) ∧ Below w.heap.size w (wr.setCell ⟨b, q, none⟩ (.int .i32 kv)) from ⟨hput, hbe.setCell (p := ⟨b, q, none⟩) (by have := HB.out; show w.heap.size ≤ b; omega) _⟩)
      have i1 : (q : Int) < k := by omega
      have p1 : (p : Int) < n := by omega
      clear lc hz hzb hc ev hput hr hbe
      go_wp2
      go_roundw
      case rel => exact ⟨q + 1, by omega, by go_num, HQ.out⟩
      case measure => simp [intOf]; omega
    · obtain rfl : q = k := by omega
      have HF := Lib.hid (show ValsPost w (A.map (keyOf os)) q (.returned (.slice (some ⟨b, 0, none⟩) q q)) wr from by
        rw [rowK_all HL.out] at hr
        exact ⟨by rw [HB.out], by rw [HB.out]; exact hr, hbe⟩)
      clear hr hbe hlt
      go_wp2
      go_ret
      exact HF.out

def HgtPost (w : World) (G : Nat → Prop) (q : Nat) (bs : List Bool) (r : Nat) (e : Ending) (w' : World) : Prop :=
  ∃ G', e = .returned (.slice (some ⟨w.heap.size, 0, none⟩) r r) ∧ Rw w' w.heap.size .i64 3 (hgts bs r) ∧ Coin w' G' q (lefts bs r) ∧ ¬ G' w.heap.size ∧ Wrote G w w' ∧ Later G G' w
def HgtAt (w : World) (G : Nat → Prop) (q : Nat) (bs : List Bool) (b r k : Nat) (wr : World) : Prop :=
  ∃ G', Rw wr b .i64 3 (rowK (hgts bs r) r k) ∧ Coin wr G' q (lefts bs k) ∧ ¬ G' b ∧ Wrote G w wr ∧ Later G G' w

theorem HgtAt.next {w wr w2 : World} {G : Nat → Prop} {q b r k : Nat} {bs : List Bool} (hb : w.heap.size = b) (hk : k < r) {G' : Nat → Prop} (hr : Rw wr b .i64 3 (rowK (hgts bs r) r k)) (hG : ¬ G' b) (hw : Wrote G w wr) (hl : Later G G' w) (d : DidC G' q (lefts bs (k + 1)) wr w2) :
    w2.cell? ⟨b, k, none⟩ = some (.int .i64 ((rowK (hgts bs r) r k).getD k 0)) ∧ (∀ j, w2.frozen? ⟨b, j, none⟩ = false) ∧ HgtAt w G q bs b r (k + 1) (w2.setCell ⟨b, k, none⟩ (.int .i64 ((up (lefts bs k) : Int) + 1))) := by
  obtain ⟨G2, c2, w2', l2⟩ := d
  have hr2 := hr.keep (w' := w2) (w2'.block b hr.lt hG)
  have hl1 : (rowK (hgts bs r) r k).length = r := rowK_length (hgts_length bs r) (by omega)
  have hput := hr2.set k ((up (lefts bs k) : Int) + 1)
  rw [show ((up (lefts bs k) : Int) + 1) = (hgts bs r).getD k 0 from (hgts_at bs hk 0).symm, rowK_put (hgts_length bs r) hk] at hput
  rw [hgts_at bs hk 0] at hput
  have hG2 : ¬ G2 b := Later.not l2 hG hr.lt
  refine ⟨hr2.cell (by omega), hr2.free, G2, hput, c2.apart (wrote1 w2 b k _) (fun g h1 h2 => hG2 (h2 ▸ h1)), hG2, ((hw.step hl w2').setCell (q := ⟨b, k, none⟩) (.inl (by simp; omega)) _), fun g hg => ?_⟩
  rcases l2 g hg with h | h
  · exact hl g h
  · exact .inr (Nat.le_trans hw.size h)

set_option maxRecDepth 100000 in
set_option maxHeartbeats 4000000 in
theorem heightsAny {w : World} {G : Nat → Prop} {q : Nat} {bs : List Bool} (h : Coin w G q bs) (r : Nat) (hr : r ≤ 1000) :
    Calls Tryz.prog 218 #[.pointer (some ⟨q, 0, none⟩), .int .i64 r] w (HgtPost w G q bs r) := by
  obtain ⟨i0, hi, hz0, hz1, hz2⟩ := info_parts infoInt
  have HC := Lib.hid h
  clear h
  have r0 : (0 : Int) ≤ r := by omega
  go_enter Tryz.func218, Tryz.ntmps218
  go_upto_region 2 with (at_make; refine wpList_make_full _ rfl _ _ 33 rfl w.heap.size 3 i0 _ 1 Tryz.underlying33 hi hz0 hz1 .i64 .i64 _ _ r rfl rfl rfl rfl (by rw [hz2]; omega) (by simp only [maxLen]; omega) (Nat.le_refl _) ?_; intro w1 hown1 hgrow1; have HM := Lib.hid (madeRow hown1 hgrow1); clear hown1 hgrow1)
  generalize hb : w.heap.size = b at *
  have HB := Lib.hid hb
  have HS := Lib.hid (show HgtAt w G q bs b r 0 w1 from ⟨G, by rw [rowK_none]; exact HM.out.1, HC.out.fresh (by rw [hb]; exact HM.out.2), (fun e => by have := HC.out.foot _ e; omega), Wrote.of (by rw [hb]; exact HM.out.2) G, Later.refl _ _⟩)
  clear HM hb HC
  go_wp2_with fail
  go_loopw [11] (fun i wr => ∃ k : Nat, k ≤ r ∧ i = .int .i64 k ∧ HgtAt w G q bs b r k wr) (fun i _ => r - (intOf i).toNat)
  case atStart => exact ⟨0, Nat.zero_le _, rfl, HS.out⟩
  case round =>
    obtain ⟨k, hk, rfl, G', hr1, hc, hG, hw, hl⟩ := hrel
    clear HS
    by_cases hlt : k < r
    · have i1 : (k : Int) < r := by omega
      have C := Lib.hid (heightAny hc)
      have HN := Lib.hid (fun (w2 : World) (d : DidC G' q (lefts bs (k + 1)) wr w2) => HgtAt.next HB.out hlt hr1 hG hw hl d)
      clear hr1 hc hG hw hl
      go_wp2_with fail
      refine C.out.mono ?_
      rintro e w2 ⟨rfl, d⟩
      obtain ⟨c0, fz, hn⟩ := HN.out w2 d
      have HN2 := Lib.hid hn
      clear hn d C HN
      go_wp2
      go_roundw
      case rel => exact ⟨k + 1, by omega, by go_num, HN2.out⟩
      case measure => simp [intOf]; omega
    · obtain rfl : k = r := by omega
      have HF := Lib.hid (show HgtPost w G q bs k (.returned (.slice (some ⟨b, 0, none⟩) k k)) wr from by
        rw [rowK_all (hgts_length bs k)] at hr1
        exact ⟨G', by rw [HB.out], by rw [HB.out]; exact hr1, hc, by rw [HB.out]; exact hG, hw, hl⟩)
      clear hr1 hc hG hw hl hlt
      go_wp2
      go_ret
      exact HF.out

end Go.Proofs.YtikaoikladbdpaaGreat
