/-
  What Filled of the statements makes: a deque with some items of bytes; a batch at a deque, and the same operations one by one at another one. Conditions: bytes, and operations, that lie in memory.
-/
import Derived.Test.YtafocplahmfghaaApply10
namespace Go.Proofs.Ytafocplahmfghaa
open Go.RowKit

/-- The items behind the first k bytes. -/
def fillL (m : Int) (xs : List Int) : Nat → List Int
  | 0 => []
  | k + 1 => dqL m (fillL m xs k) (if xs.getD k 0 % 2 = 0 then 1 else 2) (xs.getD k 0 * 3)
theorem fillL_le {m : Int} (h : 0 ≤ m) (xs : List Int) : ∀ k, ((fillL m xs k).length : Int) ≤ m
  | 0 => by simpa [fillL] using h
  | k + 1 => by
    have ih := fillL_le h xs k
    simp only [fillL, dqL]
    repeat' split
    all_goals (try simp)
    all_goals omega

/-- What Filled leaves. -/
def FillPost (w : World) (m : Int) (xs : List Int) (len : Nat) (e : Ending) (w' : World) : Prop := ∃ p F, e = .returned (.pointer (some ⟨p, 0, none⟩)) ∧ At w F p m (fillL m xs len) w'

section
variable {w : World} {F : Nat → Prop} {p : Nat} {most : Int} {zs : List Int}
theorem pushLAny (h : Rng w F p most zs) (x : Int) :
    Calls Try.prog 29 #[.pointer (some ⟨p, 0, none⟩), .int .i32 x] w fun e w' => ∃ b, e = .returned (.bool b) ∧ Did F p most (dqL most zs 1 x) w w' := by
  by_cases hf : (zs.length : Int) < most
  · refine (pushLOk h x hf).mono fun e w' ⟨he, d⟩ => ⟨true, he, by simpa [dqL, hf] using d⟩
  · refine (pushLFull h x hf).mono fun e w' ⟨he, hw⟩ => ⟨false, he, by subst hw; simpa [dqL, hf] using h.did (Below.refl _ _)⟩
theorem pushRAny (h : Rng w F p most zs) (x : Int) :
    Calls Try.prog 30 #[.pointer (some ⟨p, 0, none⟩), .int .i32 x] w fun e w' => ∃ b, e = .returned (.bool b) ∧ Did F p most (dqL most zs 2 x) w w' := by
  by_cases hf : (zs.length : Int) < most
  · refine (pushROk h x hf).mono fun e w' ⟨he, d⟩ => ⟨true, he, by simpa [dqL, hf] using d⟩
  · refine (pushRFull h x hf).mono fun e w' ⟨he, hw⟩ => ⟨false, he, by subst hw; simpa [dqL, hf] using h.did (Below.refl _ _)⟩
end

set_option maxRecDepth 100000 in
set_option maxHeartbeats 3200000 in
theorem filledAny (w : World) (x : Int) (ao : Option Addr) (len cap : Nat) (xs : List Int) (hr : Reads .u8 w ao len xs) (hby : ∀ z ∈ xs, 0 ≤ z ∧ z ≤ 255) (hl : len ≤ 1000) :
    Calls Try.prog 14 #[.int .i64 x, .slice ao len cap] w (FillPost w (mostOf x) xs len) := by
  have HR := Lib.hid hr
  have HY := Lib.hid hby
  clear hr hby
  go_enter Try.func14, Try.ntmps14
  go_wp2_with fail
  refine (newAny x w).mono ?_
  rintro e w1 ⟨p, rfl, s1, b1⟩
  have HS2 := Lib.hid (show ∃ F, At w F p (mostOf x) (fillL (mostOf x) xs 0) w1 from ⟨_, At.new s1 b1⟩)
  clear s1 b1
  generalize mostOf x = m at *
  go_wp2
  go_loopw [6] (fun i wr => ∃ k : Nat, k ≤ len ∧ i = .int .i64 k ∧ Hid (∃ F, At w F p m (fillL m xs k) wr)) (fun i _ => len - (intOf i).toNat)
  case atStart => exact ⟨0, Nat.zero_le _, rfl, HS2⟩
  case round =>
    obtain ⟨k, hk, rfl, HA⟩ := hrel
    clear HS2
    by_cases hlt : k < len
    · obtain ⟨F, hA⟩ := HA.out
      obtain ⟨b, off, rfl, bl, hc⟩ := (HR.out.keep hA.2.1).2 (by omega)
      have c := hc k hlt
      have hy := byte_at HY.out k
      have HE := Lib.hid (show fillL m xs (k + 1) = dqL m (fillL m xs k) (if xs.getD k 0 % 2 = 0 then 1 else 2) (xs.getD k 0 * 3) from rfl)
      have i1 : (k : Int) < (len : Int) := by omega
      clear hc bl
      generalize xs.getD k 0 = z at *
      obtain ⟨z0, z1⟩ := hy
      by_cases hf : z % 2 = 0
      · have C := pushLAny hA.1 (z * 3)
        have d1 : (z % 2 == 0) = true := by simpa using hf
        have HN := Lib.hid (fun w2 (d : Did F p m (dqL m (fillL m xs k) 1 (z * 3)) wr w2) => (show ∃ F', At w F' p m (fillL m xs (k + 1)) w2 from by
          obtain ⟨F', a, _, _⟩ := hA.next d
          rw [HE.out, if_pos hf]
          exact ⟨F', a⟩))
        clear hA HA hf HE
        go_wp2_with fail
        refine C.mono ?_
        clear C
        rintro e w2 ⟨b2, rfl, d⟩
        have HD := Lib.hid (HN.out w2 d)
        clear d c d1
        go_wp2
        go_roundw
        case rel => exact ⟨k + 1, by omega, by go_num, HD⟩
        case measure => simp [intOf]; omega
      · have C := pushRAny hA.1 (z * 3)
        have d1 : (z % 2 == 0) = false := by simpa using hf
        have HN := Lib.hid (fun w2 (d : Did F p m (dqL m (fillL m xs k) 2 (z * 3)) wr w2) => (show ∃ F', At w F' p m (fillL m xs (k + 1)) w2 from by
          obtain ⟨F', a, _, _⟩ := hA.next d
          rw [HE.out, if_neg hf]
          exact ⟨F', a⟩))
        clear hA HA hf HE
        go_wp2_with fail
        refine C.mono ?_
        clear C
        rintro e w2 ⟨b2, rfl, d⟩
        have HD := Lib.hid (HN.out w2 d)
        clear d c d1
        go_wp2
        go_roundw
        case rel => exact ⟨k + 1, by omega, by go_num, HD⟩
        case measure => simp [intOf]; omega
    · obtain rfl : len = k := by omega
      clear hlt
      go_wp2
      go_ret
      obtain ⟨F, a⟩ := HA.out
      exact ⟨p, F, rfl, a⟩

/-- A deque at which a batch was done, another one at which the first k of it were done one by one. -/
structure SA (w : World) (n : Nat) (os : List (Int × Int)) (m : Int) (z : List Int) (p1 p2 gt : Nat) (F1 F2 : Nat → Prop) (k : Nat) (wr : World) : Prop where
  s : Rng wr F1 p1 m (itA m z os n)
  t : Rng wr F2 p2 m (itA m z os k)
  ap : Apart F1 F2
  row : RRow wr gt (resL m z os n)
  g2 : ¬ F2 gt
  b : Below w.heap.size w wr
  n2 : ∀ g, F2 g → w.heap.size ≤ g

section
variable {w wr w' : World} {n k : Nat} {os : List (Int × Int)} {m : Int} {z : List Int} {p1 p2 gt : Nat} {F1 F2 : Nat → Prop}
theorem SA.fresh (h : SA w n os m z p1 p2 gt F1 F2 k wr) (hb : Below wr.heap.size wr w') : SA w n os m z p1 p2 gt F1 F2 k w' :=
  ⟨h.s.fresh hb, h.t.fresh hb, h.ap, h.row.below hb, h.g2, h.b.trans (hb.mono h.b.size), h.n2⟩
theorem SA.next (h : SA w n os m z p1 p2 gt F1 F2 k wr) (d : Did F2 p2 m (itA m z os (k + 1)) wr w') : ∃ F2', SA w n os m z p1 p2 gt F1 F2' (k + 1) w' := by
  obtain ⟨F', s, wr', l⟩ := d
  refine ⟨F', h.s.apart wr' h.ap, s, (l.apart h.ap.symm h.s.foot).symm, h.row.keep (wr'.block _ h.row.lt h.g2), l.not h.g2 h.row.lt, h.b.trans (wr'.below h.b.size h.n2), fun g hg => ?_⟩
  rcases l g hg with h1 | h1
  · exact h.n2 g h1
  · exact Nat.le_trans h.b.size h1
theorem SA.start {w1 w2 w3 : World} (h1 : At w F1 p1 m z w1) (h2 : At w1 F2 p2 m z w2) {F1' : Nat → Prop} (hs : Rng w3 F1' p1 m (itA m z os n)) (hr : RRow w3 gt (resL m z os n)) (hw : Wrote F1 w2 w3) (hl : Later F1 F1' w2) (hg : w2.heap.size ≤ gt) : SA w n os m z p1 p2 gt F1' F2 0 w3 := by
  have hap : Apart F1 F2 := fun g a b => by
    have := h1.lt g a
    have := h2.2.2 g b
    omega
  have b2 : Below w.heap.size w w2 := h1.2.1.trans (h2.2.1.mono h1.2.1.size)
  refine ⟨hs, h2.1.apart hw hap.symm, hl.apart hap h2.lt, hr, fun e => by have := h2.lt _ e; omega, b2.trans (hw.below b2.size h1.2.2), fun g hg => Nat.le_trans h1.2.1.size (h2.2.2 g hg)⟩
end

set_option maxRecDepth 100000 in
set_option maxHeartbeats 8000000 in
theorem sameAny (w : World) (x : Int) (ao : Option Addr) (len capa : Nat) (xs : List Int) (ap : Option Addr) (n cap : Nat) (os : List (Int × Int)) (hr : Reads .u8 w ao len xs) (hby : ∀ z ∈ xs, 0 ≤ z ∧ z ≤ 255) (hl : len ≤ 1000) (ho : OpsAt w ap n os) (hn : n ≤ 1000) :
    Calls Try.prog 13 #[.int .i64 x, .slice ao len capa, .slice ap n cap] w fun e w' => e = .returned (.bool true) ∧ Below w.heap.size w w' := by
  have C := filledAny w x ao len capa xs hr hby hl
  have HR := Lib.hid hr
  have HY := Lib.hid hby
  have HO := Lib.hid ho
  clear hr hby ho
  go_enter Try.func13, Try.ntmps13
  go_wp2_with fail
  refine C.mono ?_
  clear C
  rintro e w1 ⟨p1, F1, rfl, A1⟩
  have C := filledAny w1 x ao len capa xs (HR.out.keep A1.2.1) HY.out hl
  have HA1 := Lib.hid A1
  clear A1
  go_wp2_with fail
  refine C.mono ?_
  clear C
  rintro e w2 ⟨p2, F2, rfl, A2⟩
  generalize mostOf x = m at *
  generalize fillL m xs len = z at *
  have b2 : Below w.heap.size w w2 := HA1.out.2.1.trans (A2.2.1.mono HA1.out.2.1.size)
  have hs1 : Rng w2 F1 p1 m z := HA1.out.1.fresh A2.2.1
  have hF1 : ∀ g, F1 g → g < w2.heap.size := hs1.foot
  have C := applyAny (w := w2) (F := F1) (sp := some p1) hs1 hF1 ap n cap os (HO.out.keep b2) (fun hp a ha hg => by
    obtain ⟨b, off, e, hb, _⟩ := HO.out.2 hp
    rw [e] at ha
    injection ha with ha
    subst ha
    exact absurd (HA1.out.2.2 _ hg) (show ¬ w.heap.size ≤ b by omega)) (by omega)
  simp only [ptrO, Option.map_some] at C
  have HA2 := Lib.hid A2
  clear A2 b2 hs1 hF1
  go_wp2_with fail
  refine C.mono ?_
  clear C
  rintro e w3 ⟨gt, F1', rfl, r3, s3, wr3, l3, g3, _, _⟩
  have HS := Lib.hid (SA.start HA1.out HA2.out s3 r3 wr3 l3 g3)
  clear r3 s3 wr3 l3 g3 HA1 HA2
  have hq := eqSelf
  go_wp2
  go_loopw [10] (fun i wr => ∃ k : Nat, k ≤ n ∧ i = .int .i64 k ∧ Hid (∃ F2', SA w n os m z p1 p2 gt F1' F2' k wr)) (fun i _ => n - (intOf i).toNat)
  case atStart => exact ⟨0, Nat.zero_le _, rfl, Lib.hid ⟨F2, HS.out⟩⟩
  case round =>
    obtain ⟨k, hk, rfl, HA⟩ := hrel
    clear HS
    by_cases hlt : k < n
    · obtain ⟨Fk, hA⟩ := HA.out
      obtain ⟨b, off, rfl, bl, hc⟩ := (HO.out.keep hA.b).2 (by omega)
      obtain ⟨c0, c1⟩ := hc k hlt
      obtain ⟨c2, c3⟩ := hA.row.cells (i := k) (by rw [resL_length]; exact hlt)
      rw [resL_getD hlt] at c2 c3
      simp only at c2 c3
      change wr.cell? ⟨b, off + k * 2, none⟩ = some (.int .u8 (kindsOf os k)) at c0
      change wr.cell? ⟨b, off + k * 2 + 1, none⟩ = some (.int .i32 (os.getD k (0, 0)).2) at c1
      rw [show (os.getD k (0, 0)).2 = valOf os k by simp [valOf]] at c1
      have hd := hA.fresh (w' := wr.drew) (Below.refl _ _).drew
      have C := doAny hd.t (kindsOf os k) (valOf os k)
      have HN := Lib.hid (fun w6 (d : Did Fk p2 m (dqL m (itA m z os k) (kindsOf os k) (valOf os k)) wr.drew w6) => (show (∃ F2', SA w n os m z p1 p2 gt F1' F2' (k + 1) w6) ∧ Wrote Fk wr w6 from ⟨hd.next d, (by obtain ⟨_, _, wr', _⟩ := d; exact (Wrote.refl Fk wr).drew.trans wr')⟩))
      have HNF := Lib.hid (show ¬ Fk b ∧ b < wr.heap.size from ⟨fun e => by
        obtain ⟨b', off', e', hb', _⟩ := HO.out.2 (by omega)
        injection e' with e'
        injection e' with e1 e2
        have := hA.n2 b e
        omega, bl⟩)
      have HGT := Lib.hid (And.intro hA.g2 hA.row.lt)
      have i1 : (k : Int) < (n : Int) := by omega
      change Calls _ _ _ _ (fun e w' => e = .returned (.agg #[.int .u8 (cdA m z os k), .int .i32 (vlA m z os k)]) ∧ _) at C
      clear hc bl hA hd HA
      generalize dqL m (itA m z os k) (kindsOf os k) (valOf os k) = zz at *
      generalize kindsOf os k = kd at *
      generalize valOf os k = kx at *
      generalize cdA m z os k = cd at *
      generalize vlA m z os k = cx at *
      go_wp2
      go_region_held3 (fun w' => w'.cell? ⟨gt, k * 2, none⟩ = some (.int .u8 cd) ∧ w'.cell? ⟨gt, k * 2 + 1, none⟩ = some (.int .i32 cx) ∧ w'.cell? ⟨b, off + k * 2, none⟩ = some (.int .u8 kd) ∧ w'.cell? ⟨b, off + k * 2 + 1, none⟩ = some (.int .i32 kx)) (first | exact ⟨c2, c3, c0, c1⟩ | exact ⟨h2, h3, h0, h1⟩) (((with_reducible refine C.mono ?_); rintro e w6 ⟨rfl, d6⟩; have hw6 := (HN.out w6 d6).2; have h2 := (hw6.cell (p := ⟨gt, k * 2, none⟩) HGT.out.2 HGT.out.1).trans c2; have h3 := (hw6.cell (p := ⟨gt, k * 2 + 1, none⟩) HGT.out.2 HGT.out.1).trans c3; have h0 := (hw6.cell (p := ⟨b, off + k * 2, none⟩) HNF.out.2 HNF.out.1).trans c0; have h1 := (hw6.cell (p := ⟨b, off + k * 2 + 1, none⟩) HNF.out.2 HNF.out.1).trans c1; have H6 := Lib.hid (HN.out w6 d6).1; clear d6 hw6))
      all_goals
        go_wp2
        go_roundw
        case rel => exact ⟨k + 1, by omega, by go_num, H6⟩
        case measure => simp [intOf]; omega
    · obtain rfl : n = k := by omega
      clear hlt hq
      obtain ⟨Fk, hA⟩ := HA.out
      obtain ⟨q, hq⟩ : ∃ q, (itA m z os n).length = q := ⟨_, rfl⟩
      have hq1 : q ≤ 1000 := by rw [← hq]; exact hA.s.len
      have C := itemsBeside hA.s q hq
      have HS := Lib.hid hA
      have HQ := Lib.hid hq
      clear hA HA hq
      go_wp2_with fail
      refine C.mono ?_
      clear C
      rintro e w4 ⟨rfl, i4, b4⟩
      have h4 := HS.out.fresh b4
      have C := itemsBeside h4.t q HQ.out
      have HS4 := Lib.hid h4
      have HI4 := Lib.hid i4.1
      clear h4 i4 b4 HS
      go_wp2_with fail
      refine C.mono ?_
      clear C
      rintro e w5 ⟨rfl, i5, b5⟩
      have C := sameEq w5 _ _ q q q _ (HI4.out.keep b5) i5.1 hq1
      have HS5 := Lib.hid (HS4.out.fresh b5)
      clear i5 b5 HS4 HI4
      go_wp2_with fail
      refine C.mono ?_
      clear C
      rintro e w6 ⟨rfl, b6⟩
      have h6 := HS5.out.fresh b6
      have C := mostAny h6.s
      have D := mostAny h6.t
      have HB := Lib.hid h6.b
      clear h6 b6 HS5
      go_wp2_with fail
      refine C.mono ?_
      clear C
      rintro e w7 ⟨rfl, rfl⟩
      go_wp2_with fail
      refine D.mono ?_
      clear D
      rintro e w8 ⟨rfl, rfl⟩
      go_wp2
      go_ret
      exact ⟨rfl, HB.out⟩

end Go.Proofs.Ytafocplahmfghaa
