/-
  What Pairs of package ends answers. Conditions: operations that lie in memory, at most a million.
-/
import Derived.Test.YtafocplahmfghaaThru10
import Derived.Deep.CutRange
namespace Go.Proofs.Ytafocplahmfghaa
open Go.RowKit

/-- How many were there, as a Nat. -/
theorem haveN (x m : Int) (h0 : 0 ≤ m) (h1 : m ≤ 1000) : ∃ t : Nat, haveOf x m = (t : Int) ∧ t ≤ 1000 ∧ (t : Int) ≤ m := by
  have := haveOf_in x m h0
  exact ⟨(haveOf x m).toNat, by omega, by omega, by omega⟩

/-- What Pairs leaves. -/
def DqPost (w : World) (most there : Int) (ks : Nat → Int) (n : Nat) (e : Ending) (w' : World) : Prop :=
  ∃ gw gc, e = .returned (.tuple #[.slice (some ⟨gw, 0, none⟩) n n, .slice (some ⟨gc, 0, none⟩) n n]) ∧ Rw w' gw .i64 3 (dpL most (olds there) ks n) ∧ Rw w' gc .u8 5 (dcL most (olds there) ks n) ∧ w.heap.size ≤ gw ∧ w.heap.size ≤ gc ∧ gw ≠ gc ∧ Below w.heap.size w w'

set_option maxRecDepth 100000 in
set_option maxHeartbeats 3200000 in
theorem pairsAny (w : World) (x most : Int) (ao : Option Addr) (n cap : Nat) (os : List (Int × Int)) (ho : OpsAt w ao n os) (hn : n ≤ 1000000) :
    Calls Try.prog 16 #[.int .i64 x, .int .i64 most, .slice ao n cap] w (DqPost w (mostOf most) (haveOf x (mostOf most)) (kindsOf os) n) := by
  have HO := Lib.hid ho
  clear ho
  go_enter Try.func16, Try.ntmps16
  go_upto_region 1 with (fail)
  go_cut [1] from 10 to 12 (fun s wx => s = .int .i64 (mostOf most) ∧ w = wx)
  case first =>
    rcases mostOf_cases most with ⟨h, he⟩ | ⟨h, he⟩ | ⟨h, he⟩ | ⟨h, he⟩ | ⟨h, he⟩
    · have HE := Lib.hid he
      have h2 : ¬ 0 < most := by omega
      have h3 : ¬ 0 ≤ most := by omega
      clear he
      go_wp2_with fail
      go_meet
      exact ⟨by rw [HE.out], rfl⟩
    · subst h
      have HE := Lib.hid he
      clear he
      go_wp2_with fail
      go_meet
      exact ⟨by rw [HE.out], rfl⟩
    · obtain ⟨h1, h2⟩ := h
      have HE := Lib.hid he
      clear he
      have h3 : ¬ most < 0 := by omega
      have h4 : ¬ 1000 < most := by omega
      go_wp2_with fail
      go_meet
      exact ⟨by rw [HE.out], rfl⟩
    · subst h
      have HE := Lib.hid he
      clear he
      go_wp2_with fail
      go_meet
      exact ⟨by rw [HE.out], rfl⟩
    · have HE := Lib.hid he
      clear he
      have h2 : ¬ most < 0 := by omega
      have h3 : ¬ most < 1000 := by omega
      go_wp2_with fail
      go_meet
      exact ⟨by rw [HE.out], rfl⟩
  case' rest => skip
  obtain ⟨rfl, rfl⟩ := hcut
  have hm := mostOf_in most
  generalize mostOf most = m at *
  obtain ⟨m0, m1⟩ := hm
  go_upto_region 2 with (fail)
  go_cut [8] from 13 to 20 (fun s wx => ∃ (t : Nat) (e : Ending), haveOf x m = (t : Int) ∧ e = .returned s ∧ Hid (NewRow w t m n e wx))
  case first =>
    obtain ⟨t, HT0, ht, htm⟩ := haveN x m m0 m1
    have HT := Lib.hid HT0
    have C := rowOfAny w t m n ht hn
    rw [← HT0] at C
    clear HT0 ht htm
    rcases haveOf_cases x m m0 with ⟨h, he⟩ | ⟨h, he⟩ | ⟨h, he⟩ | ⟨h, he⟩ | ⟨h, he⟩ | ⟨h, he⟩ | ⟨h, he⟩ | ⟨h, he⟩
    · obtain ⟨h1, h2⟩ := h
      subst h2
      rw [he] at C
      clear he
      have h3 : ¬ 0 < x := by omega
      have h4 : ¬ 0 ≤ x := by omega
      clear h1
      go_wp2_with fail
      refine C.mono ?_
      clear C
      rintro e w2 ⟨p, g, h, rfl, r⟩
      have HN := Lib.hid r
      clear r
      go_wp2
      go_meet
      exact ⟨t, _, HT.out, rfl, Lib.hid ⟨p, g, h, rfl, HN.out⟩⟩
    · obtain ⟨h1, h2⟩ := h
      rw [he] at C
      clear he
      have h3 : ¬ 0 < x := by omega
      have h4 : ¬ 0 ≤ x := by omega
      have h5 : ¬ m < 0 := by omega
      go_wp2_with fail
      refine C.mono ?_
      clear C
      rintro e w2 ⟨p, g, h, rfl, r⟩
      have HN := Lib.hid r
      clear r
      go_wp2
      go_meet
      exact ⟨t, _, HT.out, rfl, Lib.hid ⟨p, g, h, rfl, HN.out⟩⟩
    · obtain ⟨h1, h2⟩ := h
      subst h1 h2
      rw [he] at C
      clear he
      go_wp2_with fail
      refine C.mono ?_
      clear C
      rintro e w2 ⟨p, g, h, rfl, r⟩
      have HN := Lib.hid r
      clear r
      go_wp2
      go_meet
      exact ⟨t, _, HT.out, rfl, Lib.hid ⟨p, g, h, rfl, HN.out⟩⟩
    · obtain ⟨h1, h2⟩ := h
      subst h1
      rw [he] at C
      clear he
      have h5 : ¬ m < 0 := by omega
      go_wp2_with fail
      refine C.mono ?_
      clear C
      rintro e w2 ⟨p, g, h, rfl, r⟩
      have HN := Lib.hid r
      clear r
      go_wp2
      go_meet
      exact ⟨t, _, HT.out, rfl, Lib.hid ⟨p, g, h, rfl, HN.out⟩⟩
    · obtain ⟨h1, h2⟩ := h
      rw [he] at C
      clear he
      have h3 : ¬ x < 0 := by omega
      have h4 : ¬ m < x := by omega
      go_wp2_with fail
      refine C.mono ?_
      clear C
      rintro e w2 ⟨p, g, h, rfl, r⟩
      have HN := Lib.hid r
      clear r
      go_wp2
      go_meet
      exact ⟨t, _, HT.out, rfl, Lib.hid ⟨p, g, h, rfl, HN.out⟩⟩
    · obtain ⟨h1, h2⟩ := h
      subst h2
      rw [he] at C
      clear he
      have h3 : ¬ x < 0 := by omega
      go_wp2_with fail
      refine C.mono ?_
      clear C
      rintro e w2 ⟨p, g, h, rfl, r⟩
      have HN := Lib.hid r
      clear r
      go_wp2
      go_meet
      exact ⟨t, _, HT.out, rfl, Lib.hid ⟨p, g, h, rfl, HN.out⟩⟩
    · obtain ⟨h1, h2⟩ := h
      rw [he] at C
      clear he
      have h3 : ¬ x < 0 := by omega
      have h4 : ¬ x < m := by omega
      have h5 : 0 < x := by omega
      go_wp2_with fail
      refine C.mono ?_
      clear C
      rintro e w2 ⟨p, g, h, rfl, r⟩
      have HN := Lib.hid r
      clear r
      go_wp2
      go_meet
      exact ⟨t, _, HT.out, rfl, Lib.hid ⟨p, g, h, rfl, HN.out⟩⟩
    · obtain ⟨h1, h2⟩ := h
      subst h1
      rw [he] at C
      clear he
      have h3 : ¬ x < 0 := by omega
      have h4 : ¬ x < 0 := by omega
      go_wp2_with fail
      refine C.mono ?_
      clear C
      rintro e w2 ⟨p, g, h, rfl, r⟩
      have HN := Lib.hid r
      clear r
      go_wp2
      go_meet
      exact ⟨t, _, HT.out, rfl, Lib.hid ⟨p, g, h, rfl, HN.out⟩⟩
  case' rest => skip
  obtain ⟨t, e, HT, he, HN⟩ := hcut
  obtain ⟨p, g, h, he2, hs, hp, hg, hh, hb⟩ := HN.out
  obtain rfl := he.symm.trans he2 |> fun q => by injection q
  have HT0 := Lib.hid (show olds (haveOf x m) = List.replicate t (-1) by rw [HT]; simp [olds])
  have ht : t ≤ 1000 := by have := haveOf_in x m m0; omega
  have hpl : ∀ y, Own3 p g h y → y < wc.heap.size := by
    obtain ⟨⟨S, A, _, r1, r2⟩, r3, _⟩ := hs
    rintro y (rfl | rfl | rfl)
    · exact r1.lt
    · exact r2.lt
    · exact r3.lt
  have hlow : ∀ y, Own3 p g h y → w.heap.size ≤ y := by
    rintro y (rfl | rfl | rfl) <;> assumption
  have C := throughAny hs hpl ao cap os (HO.out.keep hb) (fun hp0 a ha hin => by
    obtain ⟨b, off, e, hbl, _⟩ := HO.out.2 hp0
    rw [e] at ha
    injection ha with ha
    subst ha
    have hbb : w.heap.size ≤ b := hlow _ hin
    omega) hn ht
  have HB := Lib.hid hb
  have HW := Lib.hid hlow
  have HP := Lib.hid hpl
  have HQ := Lib.hid (show w.heap.size ≤ h from hh)
  have hsz := hb.size
  clear HT HN he he2 hs hp hg hh hb hpl hlow m0 m1 HO
  go_wp2_with fail
  refine C.mono ?_
  clear C
  rintro e w5 ⟨c, rfl, hc, hs, hw, hcl⟩
  have HB5 := Lib.hid (HB.out.trans (hw.below hsz HW.out))
  have HC := Lib.hid hc
  have HS := Lib.hid hs
  have HCL := Lib.hid (show w.heap.size ≤ c ∧ h ≠ c from ⟨by omega, fun e => by have := HP.out h (.inr (.inr rfl)); omega⟩)
  obtain ⟨⟨S, A, _, r1, _⟩, _⟩ := hs
  have c6 := r1.c6
  have hl := r1.lt
  clear hc hw hcl r1 HB HW HP
  go_wp2
  go_ret2
  rw [← HT0.out] at HC HS
  exact ⟨h, c, rfl, HS.out.wit, HC.out, HQ.out, HCL.out.1, HCL.out.2, HB5.out⟩

end Go.Proofs.Ytafocplahmfghaa
