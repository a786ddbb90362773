/-
  The walk of ListChain: for all lists of bytes it answers true and leaves all old memory as it was.
-/
import Derived.Test.YtllgcnljpehgeaaChn14m
import Derived.Test.YtllgcnljpehgeaaChnQ14m
import Derived.Test.YtllgcnljpehgeaaKnw14m
namespace Go.Proofs.Ytllgcnljpehgeaa.M2
open Go.RowKit

theorem VR.reads {W : World} {g : Nat} {vs : List Int} (h : VR W g vs) : Reads .i64 W (some ⟨g, 0, none⟩) vs.length vs :=
  ⟨rfl, fun _ => ⟨g, 0, rfl, h.lt, fun i hi => by rw [Nat.zero_add]; exact h.cell hi⟩⟩

theorem IntsNew.reads {w W : World} {zs : List Int} {v : Value} (h : IntsNew w zs v W) : ∃ ao cap, v = .slice ao zs.length cap ∧ Reads .i64 W ao zs.length zs ∧ Below w.heap.size w W := h

/-- A memory, and the list that hangs together. -/
structure CM (w V : World) (p : Nat) (zs : List Int) (g m : Nat) (os : List Nat) (W : World) : Prop where
  me : Mem1 W V.heap.size p zs.length zs (1 + (zs.length : Int))
  l : Reads .i64 W (some ⟨g, 0, none⟩) m (ints os)
  b : Below w.heap.size w W
theorem CM.fresh {w V W W' : World} {p g m : Nat} {zs : List Int} {os : List Nat} (h : CM w V p zs g m os W) (hb : Below W.heap.size W W') : CM w V p zs g m os W' := ⟨h.me.keep hb, h.l.keep hb, h.b.trans (hb.mono h.b.size)⟩

set_option maxRecDepth 100000 in
set_option maxHeartbeats 16000000 in
theorem chainWalk {w : World} (ac : Option Addr) (nc cc : Nat) (xs : List Int) (many : Int) (hx : ArgBytes w ac nc cc xs) (hnc : nc ≤ 140737488351232) (k0 : 0 ≤ many) (k1 : many ≤ 255) :
    Calls Try.prog 4 #[.slice ac nc cc, .int .u8 many] w fun e w' => e = .returned (.bool true) ∧ Below w.heap.size w w' := by
  have C := chainAny w ac nc cc xs hx hnc (many % 10) (by omega) (by omega)
  clear hx
  go_enter Try.func4, Try.ntmps4
  go_wp2_with fail
  refine C.mono ?_
  clear C
  rintro e w1 ⟨n, os, zs, gl, g, c, rfl, ⟨hn1, hn9⟩, hol, hos, hch, hlw, hbl, hgl, hoc⟩
  have hle : os.length ≤ n := by omega
  have hzl := hch.len
  have C := memoryAny w1 (some ⟨gl, 0, none⟩) (3 + 5 * n) (3 + 5 * n) zs (by have := hlw.1.reads; rwa [hzl] at this) (by omega)
  have HP := Lib.hid (hch.path hos hle)
  have HS := Lib.hid (hch.sound hos)
  have HWt := Lib.hid hch.wait
  have HR := Lib.hid hlw.2.1
  have HB := Lib.hid hlw.2.2
  have HZ := Lib.hid hzl
  have HO := Lib.hid (show os.length ≤ 1000 by omega)
  clear hch hlw hos hol hzl hbl hgl hoc
  go_wp2_with fail
  refine C.mono ?_
  clear C
  rintro e w2 ⟨p, u, rfl, m2, o2, b2⟩
  obtain ⟨au, cu, rfl⟩ := ownShape o2
  have S2 := Lib.hid (show CM w w1 p zs g os.length os w2 from ⟨m2, HR.out.keep b2, HB.out.trans (b2.mono HB.out.size)⟩)
  obtain ⟨len, hlen⟩ : ∃ n, zs.length = n := ⟨_, rfl⟩
  rw [hlen]
  have HLen := Lib.hid hlen
  clear m2 o2 b2 HR HB hlen
  go_upto_region 3 with (fail)
  generalize hW3 : w2.alloc (.cells #[.int .i64 (len : Int), .slice au len cu, .int .i64 (1 + (len : Int))] 33) = W3
  have f3 : Below w2.heap.size w2 W3 := by subst hW3; exact (Below.refl _ _).alloc (Nat.le_refl _) _
  have S3 := Lib.hid (S2.out.fresh f3)
  clear f3 hW3 S2
  have C := reachAny S3.out.me HP.out
  go_wp2_with fail
  refine C.mono ?_
  clear C
  rintro e w4 ⟨v, rfl, hv⟩
  simp only [Bool.false_eq_true, if_false, Bool.not_false] at hv ⊢
  obtain ⟨a4, c4, rfl, r4, b4⟩ := hv
  rw [ints_len] at r4 ⊢
  have R4 := Lib.hid r4
  have S4 := Lib.hid (S3.out.fresh b4)
  clear r4 b4 S3
  go_wp2_with fail
  refine (known w4).mono ?_
  rintro e w5 ⟨rfl, b5⟩
  have R5 := Lib.hid (R4.out.keep b5)
  have S5 := Lib.hid (S4.out.fresh b5)
  clear b5 R4 S4
  have C := intsEq w5 a4 (some ⟨g, 0, none⟩) os.length c4 c (ints os) R5.out S5.out.l HO.out
  go_wp2_with fail
  refine C.mono ?_
  clear C
  rintro e w6 ⟨rfl, b6⟩
  have S6 := Lib.hid (S5.out.fresh b6)
  clear b6 S5
  have C := soundAny S6.out.me HP.out
  rw [HS.out] at C
  go_wp2_with fail
  refine C.mono ?_
  clear C
  rintro e w7 ⟨rfl, b7⟩
  have S7 := Lib.hid (S6.out.fresh b7)
  clear b7 S6
  have C := recordsAny S7.out.me
  go_wp2_with fail
  refine C.mono ?_
  clear C
  rintro e w8 ⟨v, rfl, a8, c8, rfl, _, b8⟩
  rw [recK_len]
  have S8 := Lib.hid (S7.out.fresh b8)
  clear b8 S7
  have C := many1 S8.out.me
  have C9 := waitingAny S8.out.me
  rw [HWt.out] at C9
  clear HWt
  generalize mn zs.length = N at *
  go_wp2_with fail
  refine C.mono ?_
  clear C
  rintro e w' ⟨rfl, rfl⟩
  go_wp2_with fail
  refine C9.mono ?_
  clear C9
  rintro e w9 ⟨v, rfl, a9, c9, rfl, _, b9⟩
  have B9 := Lib.hid (S8.out.b.trans (b9.mono S8.out.b.size))
  clear b9
  simp only [List.length_nil]
  go_wp2
  go_ret
  exact ⟨rfl, B9.out⟩

end Go.Proofs.Ytllgcnljpehgeaa.M2
