/-
  The walk of SpecFull: for all objects, items, operations and bytes it answers true and leaves all old memory as it was.
-/
import Derived.Test.YtejnadokjnfagaaFullWays8
namespace Go.Proofs.Ytejnadokjnfagaa
open Go.RowKit Go.Lib

attribute [local simp] objL objC objV stkL stkC stkV dqL dqC dqV hpL hpC hpV fgt
@[local simp] theorem mostOf5 : mostOf 5 = 5 := rfl

set_option maxRecDepth 100000 in
set_option maxHeartbeats 4000000 in
theorem fullWalk {w : World} (obj : Int) (ao : Option Addr) (n cap : Nat) (zs : List Int) (k0 x more : Int) (h0 : 0 ≤ obj) (_ : obj ≤ 255) (hz : ArgInt32s w ao n cap zs) (_ : n ≤ 140737488351232) (hop : OpOk (k0, x)) (g0 : 0 ≤ more) (_ : more ≤ 255) :
    Calls Try.prog 8 #[.int .u8 obj, .slice ao n cap, .agg #[.int .u8 k0, .int .i32 x], .int .u8 more] w fun e w' => e = .returned (.bool true) ∧ Below w.heap.size w w' := by
  by_cases hl : 100 < n
  · clear hz hop
    go_enter Try.func8, Try.ntmps8
    go_upto_region 1 with (fail)
    have hbW : Below w.heap.size w (w.alloc (.cells #[.int .u8 k0, .int .i32 x] 36)) := (Below.refl _ _).alloc (Nat.le_refl _) _
    have HBW := Lib.hid hbW
    clear hbW
    generalize w.alloc (.cells #[.int .u8 k0, .int .i32 x] 36) = W at *
    go_wp2_with fail
    refine (known _).mono ?_
    rintro e w1 ⟨rfl, b1⟩
    have HB1 := Lib.hid (HBW.out.trans (b1.mono HBW.out.size))
    clear b1
    go_wp2
    go_ret
    exact ⟨rfl, HB1.out⟩
  · have hn : n ≤ 100 := by omega
    have hk0 : 0 ≤ k0 := hop.1.1
    have hnl := hz.1.1
    obtain ⟨q3, hq3⟩ : ∃ q : Int, obj % 3 = q := ⟨_, rfl⟩
    obtain ⟨r, hr⟩ : ∃ q : Int, k0 % 4 = q := ⟨_, rfl⟩
    obtain ⟨mr, hmr⟩ : ∃ q : Int, more % 3 = q := ⟨_, rfl⟩
    have q0 : 0 ≤ q3 ∧ q3 < 3 := by omega
    have r0 : 0 ≤ r ∧ r < 4 := by omega
    have mr0 : 0 ≤ mr ∧ mr < 3 := by omega
    have c1 : obj.tmod 3 = q3 := by rw [Int.tmod_eq_emod_of_nonneg h0]; exact hq3
    have c2 : IntKind.u8.wrap q3 = q3 := by rw [IntKind.wrap_u8]; omega
    have d1 : k0.tmod 4 = r := by rw [Int.tmod_eq_emod_of_nonneg hk0]; exact hr
    have m1 : more.tmod 3 = mr := by rw [Int.tmod_eq_emod_of_nonneg g0]; exact hmr
    have m2 : IntKind.u8.wrap mr = mr := by rw [IntKind.wrap_u8]; omega
    have m3 : IntKind.i64.wrap mr = mr := by rw [IntKind.wrap_i64]; omega
    obtain ⟨M, hM⟩ : ∃ M : Int, (n : Int) - mr = M := ⟨_, rfl⟩
    have m4 : IntKind.i64.wrap ((n : Int) - mr) = M := by rw [IntKind.wrap_i64]; omega
    obtain ⟨N, m5⟩ : ∃ N : Int, (if 0 < M then M else 0) = N := ⟨_, rfl⟩
    have hN : 0 ≤ N ∧ N ≤ n := by split at m5 <;> omega
    have hm : ¬ (n : Int) < mostOf N := by rw [mostOf_self N hN.1 (by omega)]; omega
    clear hq3 hr hmr hM hN hop
    rcases (show q3 = 0 ∨ q3 = 1 ∨ q3 = 2 from by omega) with h | h | h
    · subst h
      rcases (show r = 0 ∨ r = 1 ∨ r = 2 ∨ r = 3 from by omega) with h | h | h | h
      · subst h
        exact fullWay1F obj ao n cap zs k0 x more 1 0 mr M N hz.1 hn c1 (by decide) (by decide) d1 m1 m2 m3 m4 m5 (by decide) (by decide) _ _ _ rfl (by simp [*]) (by simp [*]) rfl (by simp [*]) rfl (by simp [*]) (by simp [*])
      · subst h
        by_cases hn0 : n = 0
        · exact fullWay2FN obj ao n cap zs k0 x more 1 0 mr M N hz.1 hn c1 (by decide) (by decide) d1 m1 m2 m3 m4 m5 (by decide) (by decide) _ _ _ _ rfl rfl rfl rfl (by simp [*]) (by simp [*]) hn0 (by simp [*])
        · have hne : ¬ zs = [] := fun e => hn0 (by rw [← hnl, e]; rfl)
          exact fullWay2FS obj ao n cap zs k0 x more 1 0 mr M N hz.1 hn c1 (by decide) (by decide) d1 m1 m2 m3 m4 m5 (by decide) (by decide) _ _ _ rfl (by simp [*]) rfl rfl (by simp [*]) (by simp [*]) hn0 (by simp [*]) (by simp [*])
      · subst h
        exact fullWay3F obj ao n cap zs k0 x more 1 0 mr M N hz.1 hn c1 (by decide) (by decide) d1 m1 m2 m3 m4 m5 (by decide) (by decide) _ _ _ _ rfl (by simp [*]) rfl rfl (by simp [*]) rfl (by simp [*])
      · subst h
        exact fullWay4F obj ao n cap zs k0 x more 1 0 mr M N hz.1 hn c1 (by decide) (by decide) d1 m1 m2 m3 m4 m5 (by decide) (by decide) _ _ _ _ rfl (by simp [*]) rfl rfl (by simp [*]) rfl (by simp [*])
    · subst h
      rcases (show r = 0 ∨ r = 1 ∨ r = 2 ∨ r = 3 from by omega) with h | h | h | h
      · subst h
        exact fullWay1T obj ao n cap zs k0 x more 1 mr M N hz.1 hn c1 (by decide) (by decide) d1 m1 m2 m3 m4 m5 _ _ _ rfl (by simp [*]) (by simp [*]) rfl (by simp [*]) rfl (by simp [*]) (by simp [*])
      · subst h
        exact fullWay2T obj ao n cap zs k0 x more 1 mr M N hz.1 hn c1 (by decide) (by decide) d1 m1 m2 m3 m4 m5 _ _ _ rfl (by simp [*]) (by simp [*]) rfl (by simp [*]) rfl (by simp [*]) (by simp [*])
      · subst h
        by_cases hn0 : n = 0
        · exact fullWay3TN obj ao n cap zs k0 x more 1 mr M N hz.1 hn c1 (by decide) (by decide) d1 m1 m2 m3 m4 m5 _ _ _ _ rfl rfl rfl rfl (by simp [*]) (by simp [*]) hn0 (by simp [*])
        · have hne : ¬ zs = [] := fun e => hn0 (by rw [← hnl, e]; rfl)
          exact fullWay3TS obj ao n cap zs k0 x more 1 mr M N hz.1 hn c1 (by decide) (by decide) d1 m1 m2 m3 m4 m5 _ _ _ rfl (by simp [*]) rfl rfl (by simp [*]) (by simp [*]) hn0 (by simp [*]) (by simp [*])
      · subst h
        by_cases hn0 : n = 0
        · exact fullWay4TN obj ao n cap zs k0 x more 1 mr M N hz.1 hn c1 (by decide) (by decide) d1 m1 m2 m3 m4 m5 _ _ _ _ rfl rfl rfl rfl (by simp [*]) (by simp [*]) hn0 (by simp [*])
        · have hne : ¬ zs = [] := fun e => hn0 (by rw [← hnl, e]; rfl)
          exact fullWay4TS obj ao n cap zs k0 x more 1 mr M N hz.1 hn c1 (by decide) (by decide) d1 m1 m2 m3 m4 m5 _ _ _ rfl (by simp [*]) rfl rfl (by simp [*]) (by simp [*]) hn0 (by simp [*]) (by simp [*])
    · subst h
      rcases (show r = 0 ∨ r = 1 ∨ r = 2 ∨ r = 3 from by omega) with h | h | h | h
      · subst h
        exact fullWay1F obj ao n cap zs k0 x more 3 2 mr M N hz.1 hn c1 (by decide) (by decide) d1 m1 m2 m3 m4 m5 (by decide) (by decide) _ _ _ rfl (by simp [*]) (by simp [*]) rfl (by simp [*]) rfl (by simp [*]) (by simp [*])
      · subst h
        by_cases hn0 : n = 0
        · exact fullWay2FN obj ao n cap zs k0 x more 3 2 mr M N hz.1 hn c1 (by decide) (by decide) d1 m1 m2 m3 m4 m5 (by decide) (by decide) _ _ _ _ rfl rfl rfl rfl (by simp [*]) (by simp [*]) hn0 (by simp [*])
        · have hne : ¬ zs = [] := fun e => hn0 (by rw [← hnl, e]; rfl)
          exact fullWay2FS obj ao n cap zs k0 x more 3 2 mr M N hz.1 hn c1 (by decide) (by decide) d1 m1 m2 m3 m4 m5 (by decide) (by decide) _ _ _ rfl (by simp [*]) rfl rfl (by simp [*]) (by simp [*]) hn0 (by simp [*]) (by simp [*])
      · subst h
        exact fullWay3F obj ao n cap zs k0 x more 3 2 mr M N hz.1 hn c1 (by decide) (by decide) d1 m1 m2 m3 m4 m5 (by decide) (by decide) _ _ _ _ rfl (by simp [*]) rfl rfl (by simp [*]) rfl (by simp [*])
      · subst h
        exact fullWay4F obj ao n cap zs k0 x more 3 2 mr M N hz.1 hn c1 (by decide) (by decide) d1 m1 m2 m3 m4 m5 (by decide) (by decide) _ _ _ _ rfl (by simp [*]) rfl rfl (by simp [*]) rfl (by simp [*])

end Go.Proofs.Ytejnadokjnfagaa
