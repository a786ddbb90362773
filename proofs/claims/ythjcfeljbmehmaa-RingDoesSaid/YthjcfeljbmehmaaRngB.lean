/-
  What PushL, PushR, PopL and PopR of package ring do where there is room, or an item. Conditions: a deque as Rng says.
-/
import Derived.Test.YthjcfeljbmehmaaRng
namespace Go.Proofs.Ythjcfeljbmehmaa
open Go.RowKit

section
variable {w : World} {F : Nat → Prop} {p : Nat} {most : Int} {zs : List Int}

set_option maxHeartbeats 1600000 in
theorem pushLOk (h : Rng w F p most zs) (x : Int) (hf : (zs.length : Int) < most) :
    Calls Try.prog 25 #[.pointer (some ⟨p, 0, none⟩), .int .i32 x] w fun e w' => e = .returned (.bool true) ∧ Did F p most (x :: zs) w w' := by
  have L := lenAny h
  have M := mostAny h
  have hz := h.len
  obtain ⟨g, ds, f, h1, h2, h3, h4, h5, h6, h7⟩ := h
  have hr : zs.length < ds.length := by omega
  have hfl := h2.lt (by omega)
  have T := turnBack h1 hfl h4
  have hal := ahead_lt hfl
  have HH := Lib.hid (h2.pushL hr x)
  have HS := Lib.hid (show (ds.length ≤ 1000 ∧ most = ds.length ∧ F p ∧ F g ∧ ∀ k, F k → k < w.heap.size) from ⟨h4, h3, h5, h6, h7⟩)
  have HP := Lib.hid (pos_zero hal)
  clear h1 h2 h3 h5 h6 h7 hfl
  go_enter Try.func25, Try.ntmps25
  go_wp2_with (first | (go_at_call 17; refine L.mono ?_; rintro e w' ⟨rfl, rfl⟩) | (go_at_call 23; refine M.mono ?_; rintro e w' ⟨rfl, rfl⟩))
  refine T.mono ?_
  rintro e w1 ⟨rfl, r1, wr1⟩
  have c2 := r1.c2
  have f2 := r1.fp 2
  have HR := Lib.hid (r1.setMany (zs.length + 1) ((zs.length : Int) + 1) (by omega))
  have HW := Lib.hid ((wr1.mono (G := F) (fun k e => by subst e; exact HS.out.2.2.1)).setCell (q := ⟨p, 2, none⟩) (.inr HS.out.2.2.1) (.int .i64 ((zs.length : Int) + 1)))
  clear r1 wr1 T L M
  go_wp2_with fail
  generalize w1.setCell ⟨p, 2, none⟩ (.int .i64 ((zs.length : Int) + 1)) = w2 at *
  clear c2 f2
  refine (placeAny HR.out hal h4 0 (Nat.zero_le _)).mono ?_
  rintro e w3 ⟨rfl, q, rfl⟩
  rw [HP.out]
  have r3 := HR.out.drewN q
  have c3 := r3.cell (ahead ds.length f) hal
  have f3 := r3.fg (ahead ds.length f)
  have HR3 := Lib.hid (r3.setItem (ahead ds.length f) x)
  have HW3 := Lib.hid ((HW.out.drewN q).setCell (q := ⟨g, ahead ds.length f, none⟩) (.inr HS.out.2.2.2.1) (.int .i32 x))
  clear r3 HR HW
  generalize w2.drewN q = w3 at *
  generalize ds.getD (ahead ds.length f) 0 = old at *
  go_wp2
  go_ret
  obtain ⟨k4, k3, k5, k6, k7⟩ := HS.out
  exact ⟨rfl, did_mk HR3.out HH.out (by rw [List.length_set]; exact k3) (by rw [List.length_set]; exact k4) k5 k6 k7 HW3.out⟩

set_option maxHeartbeats 1600000 in
theorem popLOk (z : Int) (h : Rng w F p most (z :: zs)) :
    Calls Try.prog 18 #[.pointer (some ⟨p, 0, none⟩)] w fun e w' => e = .returned (.tuple #[.int .i32 z, .bool true]) ∧ Did F p most zs w w' := by
  have L := lenAny h
  have hz := h.len
  obtain ⟨g, ds, f, h1, h2, h3, h4, h5, h6, h7⟩ := h
  have hro := h2.room
  simp only [List.length_cons] at hro hz L h1
  have hfl := h2.lt (by omega)
  obtain ⟨hh, hv⟩ := h2.popL
  have hpl := pos_lt hfl (Nat.zero_le ds.length)
  have HH := Lib.hid hh
  have HV := Lib.hid hv
  have P := placeAny h1 hfl h4 0 (Nat.zero_le _)
  have HS := Lib.hid (show (ds.length ≤ 1000 ∧ most = ds.length ∧ F p ∧ F g ∧ ∀ k, F k → k < w.heap.size) from ⟨h4, h3, h5, h6, h7⟩)
  have HR := Lib.hid h1
  clear h1 h2 h3 h5 h6 h7 hh hv
  generalize hn : zs.length = n at *
  have HN := Lib.hid hn
  clear hn
  go_enter Try.func18, Try.ntmps18
  go_wp2_with (go_at_call 17; refine L.mono ?_; rintro e w' ⟨rfl, rfl⟩)
  refine P.mono ?_
  rintro e w1 ⟨rfl, q, rfl⟩
  have r1 := HR.out.drewN q
  have c1 := r1.cell _ hpl
  rw [HV.out] at c1
  have T := turnNext r1 hfl h4
  have HW1 := Lib.hid ((Wrote.refl F w).drewN q)
  clear P L HR r1
  generalize w.drewN q = w2 at *
  generalize pos ds.length f 0 = r0 at *
  go_wp2_with fail
  refine T.mono ?_
  rintro e w3 ⟨rfl, r3, wr3⟩
  have c2 := r3.c2
  have f2 := r3.fp 2
  have e1 : IntKind.i64.wrap (((n + 1 : Nat) : Int) - 1) = (n : Int) := by rw [IntKind.wrap_i64]; omega
  have HR3 := Lib.hid (r3.setMany n (n : Int) rfl)
  have HW3 := Lib.hid ((HW1.out.trans (wr3.mono (G := F) (fun k e => by subst e; exact HS.out.2.2.1))).setCell (q := ⟨p, 2, none⟩) (.inr HS.out.2.2.1) (.int .i64 (n : Int)))
  clear r3 wr3 T c1
  go_wp2
  go_ret2
  obtain ⟨k4, k3, k5, k6, k7⟩ := HS.out
  exact ⟨rfl, did_mk (by rw [HN.out]; exact HR3.out) HH.out k3 k4 k5 k6 k7 HW3.out⟩

set_option maxHeartbeats 1600000 in
theorem popROk (y : Int) (h : Rng w F p most (zs ++ [y])) :
    Calls Try.prog 24 #[.pointer (some ⟨p, 0, none⟩)] w fun e w' => e = .returned (.tuple #[.int .i32 y, .bool true]) ∧ Did F p most zs w w' := by
  have L := lenAny h
  have hz := h.len
  obtain ⟨g, ds, f, h1, h2, h3, h4, h5, h6, h7⟩ := h
  have hro := h2.room
  simp only [List.length_append, List.length_cons, List.length_nil, Nat.zero_add] at hro hz L h1
  have hfl := h2.lt (by omega)
  obtain ⟨hh, hv⟩ := h2.popR
  have hpl := pos_lt hfl (show zs.length ≤ ds.length by omega)
  have HH := Lib.hid hh
  have HV := Lib.hid hv
  have HS := Lib.hid (show (ds.length ≤ 1000 ∧ most = ds.length ∧ F p ∧ F g ∧ ∀ k, F k → k < w.heap.size) from ⟨h4, h3, h5, h6, h7⟩)
  have c2 := h1.c2
  have f2 := h1.fp 2
  generalize hn : zs.length = n at *
  have HN := Lib.hid hn
  clear hn
  have e1 : IntKind.i64.wrap (((n + 1 : Nat) : Int) - 1) = (n : Int) := by rw [IntKind.wrap_i64]; omega
  have HR := Lib.hid (h1.setMany n (n : Int) rfl)
  have HW := Lib.hid ((Wrote.refl F w).setCell (q := ⟨p, 2, none⟩) (.inr h5) (.int .i64 (n : Int)))
  clear h1 h2 h3 h5 h6 h7 hh hv
  go_enter Try.func24, Try.ntmps24
  go_wp2_with (go_at_call 17; refine L.mono ?_; rintro e w' ⟨rfl, rfl⟩)
  generalize w.setCell ⟨p, 2, none⟩ (.int .i64 (n : Int)) = w2 at *
  clear c2 f2 e1
  have c2 := HR.out.c2
  have c1 := HR.out.cell _ hpl
  rw [HV.out] at c1
  have P := fun q => placeAny (HR.out.drewN q) hfl h4 n (by omega)
  generalize pos ds.length f n = r0 at *
  go_quiet ((go_at_call 32; exact Calls.quiet_of (P _)))
  clear P c1 c2
  go_wp2
  go_ret2
  obtain ⟨k4, k3, k5, k6, k7⟩ := HS.out
  exact ⟨rfl, did_mk (by rw [HN.out]; exact HR.out.drewN _) HH.out k3 k4 k5 k6 k7 (HW.out.drewN _)⟩

set_option maxHeartbeats 1600000 in
theorem pushROk (h : Rng w F p most zs) (x : Int) (hf : (zs.length : Int) < most) :
    Calls Try.prog 19 #[.pointer (some ⟨p, 0, none⟩), .int .i32 x] w fun e w' => e = .returned (.bool true) ∧ Did F p most (zs ++ [x]) w w' := by
  have L := lenAny h
  have M := mostAny h
  have hz := h.len
  obtain ⟨g, ds, f, h1, h2, h3, h4, h5, h6, h7⟩ := h
  have hr : zs.length < ds.length := by omega
  have hfl := h2.lt (by omega)
  have hpl := pos_lt hfl (show zs.length ≤ ds.length by omega)
  have HH := Lib.hid (h2.pushR hr x)
  have HS := Lib.hid (show (ds.length ≤ 1000 ∧ most = ds.length ∧ F p ∧ F g ∧ ∀ k, F k → k < w.heap.size) from ⟨h4, h3, h5, h6, h7⟩)
  have HR := Lib.hid h1
  have c2 := h1.c2
  clear h1 h2 h3 h5 h6 h7
  go_enter Try.func19, Try.ntmps19
  go_wp2_with (first | (go_at_call 17; refine L.mono ?_; rintro e w' ⟨rfl, rfl⟩) | (go_at_call 23; refine M.mono ?_; rintro e w' ⟨rfl, rfl⟩))
  clear L M
  have P := fun q => placeAny (HR.out.drewN q) hfl h4 zs.length (by omega)
  have C := fun q => (HR.out.drewN q).cell _ hpl
  have D := fun q => (HR.out.drewN q).fg (pos ds.length f zs.length)
  go_region_with (go_at_call 32; refine (P _).mono ?_; rintro e w' ⟨rfl, q, rfl⟩)
  have HR3 := Lib.hid ((HR.out.drewN (1 + q)).setItem (pos ds.length f zs.length) x)
  have HW3 := Lib.hid (((Wrote.refl F w).drewN (1 + q)).setCell (q := ⟨g, pos ds.length f zs.length, none⟩) (.inr HS.out.2.2.2.1) (.int .i32 x))
  clear P C D c2
  generalize (w.drewN (1 + q)).setCell ⟨g, pos ds.length f zs.length, none⟩ (.int .i32 x) = w3 at *
  have c2 := HR3.out.c2
  have f2 := HR3.out.fp 2
  go_wp2
  go_ret
  obtain ⟨k4, k3, k5, k6, k7⟩ := HS.out
  exact ⟨rfl, did_mk (HR3.out.setMany _ _ (by simp)) HH.out (by rw [List.length_set]; exact k3) (by rw [List.length_set]; exact k4) k5 k6 k7 (HW3.out.setCell (q := ⟨p, 2, none⟩) (.inr k5) _)⟩
end

end Go.Proofs.Ythjcfeljbmehmaa
