/-
  What reaperlaw05.run leaves of a deque. Conditions: a deque as Rng says; operations that lie beside it.
-/
import Derived.Test.YthjcfeljbmehmaaRngOps
namespace Go.Proofs.Ythjcfeljbmehmaa
open Go.RowKit

/-- The items behind operations. -/
def runL (most : Int) (zs : List Int) (os : List (Int × Int)) : List Int := os.foldl (fun l o => dqL most l o.1 o.2) zs
theorem runL_next (most : Int) (zs : List Int) (os : List (Int × Int)) (k : Nat) (h : k < os.length) : runL most zs (os.take (k + 1)) = dqL most (runL most zs (os.take k)) (os.getD k (0, 0)).1 (os.getD k (0, 0)).2 := by
  rw [take_op os k h, runL, List.foldl_append]; rfl

/-- What holds at each round's head. -/
def RunRel (w : World) (F : Nat → Prop) (p : Nat) (most : Int) (zs : List Int) (os : List (Int × Int)) (len : Nat) (i : Value) (wr : World) : Prop :=
  ∃ (k : Nat) (F' : Nat → Prop), k ≤ len ∧ i = .int .i64 k ∧ Rng wr F' p most (runL most zs (os.take k)) ∧ Wrote F w wr ∧ Later F F' w

set_option maxHeartbeats 4000000 in
theorem runAny {w : World} {F : Nat → Prop} {p : Nat} {most : Int} {zs : List Int} (h : Rng w F p most zs) (ao : Option Addr) (len cap : Nat) (os : List (Int × Int)) (ho : OpsAt w ao len os) (hoff : Off F ao) (hk : ∀ o ∈ os, 0 ≤ o.1 ∧ o.1 ≤ 255) (hlen : len ≤ 1000) :
    Calls Try.prog 21 #[.pointer (some ⟨p, 0, none⟩), .slice ao len cap] w fun e w' => e = .returned (.tuple #[]) ∧ Did F p most (runL most zs os) w w' := by
  have HO := Lib.hid ho
  have HF := Lib.hid hoff
  have HK := Lib.hid hk
  have HS := Lib.hid (show RunRel w F p most zs os len (.int .i64 0) w from ⟨0, F, Nat.zero_le _, rfl, by simpa [runL] using h, Wrote.refl _ _, Later.refl _ _⟩)
  clear ho hoff hk h
  go_enter Try.func21, Try.ntmps21
  go_wp2
  go_loopw [4] (fun i wr => RunRel w F p most zs os len i wr) (fun i _ => len - (intOf i).toNat)
  case atStart => exact HS.out
  case round =>
    obtain ⟨k, F', hk, rfl, hs, hw, hl⟩ := hrel
    have HT := Lib.hid hs
    have HW := Lib.hid hw
    have HL := Lib.hid hl
    clear hs hw hl HS
    by_cases hlt : k < len
    · have hkl : k < os.length := by rw [HO.out.1]; exact hlt
      obtain ⟨b, off, rfl, bl, hc⟩ := (HO.out.off HF.out HW.out).2 (by omega)
      obtain ⟨c0, c1⟩ := hc k hlt
      have i0 : (k : Int) < len := by omega
      have hb : 0 ≤ (os.getD k (0, 0)).1 ∧ (os.getD k (0, 0)).1 ≤ 255 := by simpa [List.getD, hkl] using HK.out os[k] (List.getElem_mem hkl)
      have HN := Lib.hid (runL_next most zs os k hkl)
      have C := doAny HT.out (os.getD k (0, 0)).1 (os.getD k (0, 0)).2
      clear hc hb hkl
      rw [← HN.out] at C
      clear HN
      generalize os.getD k (0, 0) = o at *
      go_wp2_with fail
      refine C.mono ?_
      clear C
      rintro e w3 ⟨rfl, F3, s3, wr3, l3⟩
      have H3 := Lib.hid (show RunRel w F p most zs os len (.int .i64 ((k : Int) + 1)) w3 from ⟨k + 1, F3, by omega, by go_num, s3, HW.out.step HL.out wr3, HL.out.trans l3 HW.out.size⟩)
      clear s3 wr3 l3 c0 c1
      go_wp2
      go_roundw
      case rel => exact H3.out
      case measure => simp [intOf]; omega
    · obtain rfl : k = len := by omega
      have HD := Lib.hid (show Did F p most (runL most zs os) w wr from ⟨F', by have := HT.out; rwa [List.take_of_length_le (by rw [HO.out.1]; exact Nat.le_refl _)] at this, HW.out, HL.out⟩)
      clear HT HW HL HO HF HK
      go_wp2
      go_end0
      exact ⟨rfl, HD.out⟩

end Go.Proofs.Ythjcfeljbmehmaa
