/-
  Cells with one of them another one (reaperlaw14.with), and what is told of cells (reaperlaw14.sound). Conditions: at most 200 numbers.
-/
import Derived.Test.YtllgcnljpehgeaaChainWalk14m
namespace Go.Proofs.Ytllgcnljpehgeaa.M2
open Go.RowKit

theorem Reads.set {w : World} {g n i : Nat} {cur : Array Value} {t : TypeId} {zs : List Int} (h : Reads .i64 w (some ⟨g, 0, none⟩) n zs) (hg : w.heap[g]? = some (.cells cur t (0, 0))) (hi : i < n) (x : Int) :
    Reads .i64 (w.setCell ⟨g, i, none⟩ (.int .i64 x)) (some ⟨g, 0, none⟩) n (zs.set i x) := by
  refine ⟨by rw [List.length_set]; exact h.1, fun h0 => ?_⟩
  obtain ⟨b, o, e, hl, hc⟩ := h.2 h0
  simp only [Option.some.injEq, Addr.mk.injEq] at e
  obtain ⟨rfl, rfl, _⟩ := e
  refine ⟨_, _, rfl, by simpa [World.setCell] using hl, fun j hj => ?_⟩
  have hcj := hc j hj
  have hci := hc i hi
  have hs := heap_setCell_same w g i _ _ (Value.int .i64 x) hg
  rw [Nat.zero_add] at hcj hci ⊢
  unfold World.cell? at hcj hci ⊢
  simp only [hg] at hcj hci
  simp only [hs]
  have hil : i < cur.size := by
    have := (Array.getElem?_eq_some_iff.1 (by simpa using hci : cur[i]? = some _)).1
    exact this
  by_cases hij : i = j
  · subst hij
    have e : (zs.set i x).getD i 0 = x := by rw [getD_set, if_pos ⟨rfl, by rw [h.1]; exact hi⟩]
    rw [e]
    simp [hil]
  · have e : (zs.set i x).getD j 0 = zs.getD j 0 := by rw [getD_set, if_neg (fun h => hij h.1)]
    rw [e]
    simpa [hij] using hcj

/-- What with tells. -/
def WithNew (w : World) (zs : List Int) (e : Ending) (w' : World) : Prop := ∃ ao cap, e = .returned (.slice ao zs.length cap) ∧ Reads .i64 w' ao zs.length zs ∧ Below w.heap.size w w'

set_option maxRecDepth 100000 in
set_option maxHeartbeats 4000000 in
theorem withAny (w : World) (ao : Option Addr) (len cap : Nat) (zs : List Int) (hz : Reads .i64 w ao len zs) (hl : len ≤ 200) (i : Nat) (hi : i < len) (x : Int) :
    Calls Try.prog 20 #[.slice ao len cap, .int .i64 (i : Int), .int .i64 x] w (WithNew w (zs.set i x)) := by
  obtain ⟨j0, hj, hy0, hy1, hy2⟩ := info_parts infoInt64
  obtain rfl : zs.length = len := hz.1
  have HZ := Lib.hid hz
  have HL := Lib.hid hl
  have HI := Lib.hid hi
  clear hz hl
  have hi0 : (i : Int) < zs.length := by omega
  generalize hlen : zs.length = len at *
  have HE := Lib.hid hlen
  clear hlen
  go_enter Try.func20, Try.ntmps20
  go_upto_region 3 with (at_builtin; refine wpList_append_src _ rfl (.tmp 8) (.tmp 9) 22 rfl w.heap.size 2 j0 _ 1 8 Try.underlying22 hj hy0 hy1 hy2 rfl (by decide) (.slice none 0 0) 0 [] rfl (World.ownsRow_nil _ _ _ _) _ _ _ (zs.map (Value.int .i64)) rfl (by rw [List.length_map, HE.out, Nat.mul_one]) (by have := HZ.out; exact reads_src this) (ints_oneCell _ _) (by have := HL.out; simp only [maxLen]; omega) (by have := HL.out; omega) (Nat.le_refl _) ?_; intro v1 w1 q1 g1; have H1 := Lib.hid (show w1.ownsRow w.heap.size 2 1 v1 len (zs.map (Value.int .i64)) by simpa using q1); have HB := Lib.hid ((Below.refl w.heap.size w).grown g1 (Nat.le_refl _) (fun k e => by simp [Value.ownBlock] at e)); clear q1 g1)
  rcases H1.out.2 with ⟨_, hnil⟩ | ⟨g, cp, cur, rfl, hbg, hg, _⟩
  · exact absurd hnil (by have := HI.out; omega)
  obtain ⟨ao2, cp2, e2, hr, hcp⟩ : ∃ ao2 cp2, Value.slice (some ⟨g, 0, none⟩) len cp = .slice ao2 len cp2 ∧ Reads .i64 w1 ao2 len zs ∧ True := ⟨_, _, rfl, by have := H1.out; rw [← HE.out] at this ⊢; exact reads_own this, trivial⟩
  simp only [Value.slice.injEq] at e2
  obtain ⟨rfl, _, _⟩ := e2
  obtain ⟨b, o, e, hl, hc⟩ := hr.2 (by omega)
  simp only [Option.some.injEq, Addr.mk.injEq] at e
  obtain ⟨rfl, rfl, _⟩ := e
  have c0 := hc i hi
  rw [Nat.zero_add] at c0
  have cf : w1.frozen? ⟨g, i, none⟩ = false := by unfold World.frozen?; simp [hg]
  have HR := Lib.hid (Reads.set hr hg hi x)
  have HB2 := Lib.hid (HB.out.setCell (p := ⟨g, i, none⟩) hbg (.int .i64 x))
  generalize zs.getD i 0 = z at *
  clear hr hc hl hg hi H1 HB hcp
  go_wp2
  go_ret
  exact ⟨_, _, by rw [List.length_set, HE.out]; rfl, by rw [List.length_set, HE.out]; exact HR.out, HB2.out⟩

set_option maxRecDepth 100000 in
set_option maxHeartbeats 4000000 in
theorem soundLAny (w : World) (ao : Option Addr) (len cap : Nat) (zs : List Int) (hz : Reads .i64 w ao len zs) (hl : len ≤ 200) (ps : List Nat) (lost : Bool) (hP : Path zs ps lost) :
    Calls Try.prog 21 #[.slice ao len cap] w fun e w' => e = .returned (.int .u16 (soundV zs ps lost)) ∧ Below w.heap.size w w' := by
  obtain ⟨sv, hsv⟩ : ∃ sv, soundV zs ps lost = sv := ⟨_, rfl⟩
  rw [hsv]
  have HSV := Lib.hid hsv
  have C := memoryAny w ao len cap zs hz hl
  have HP := Lib.hid hP
  clear hz hl hP hsv
  go_enter Try.func21, Try.ntmps21
  go_wp2_with fail
  refine C.mono ?_
  clear C
  rintro e w1 ⟨p, u, rfl, m1, o1, b1⟩
  obtain ⟨au, cu, rfl⟩ := ownShape o1
  have M1 := Lib.hid m1
  have B1 := Lib.hid b1
  clear m1 o1 b1
  go_upto_region 2 with (fail)
  generalize hW2 : w1.alloc (.cells #[.int .i64 (zs.length : Int), .slice au zs.length cu, .int .i64 (1 + (zs.length : Int))] 33) = W2
  have f2 : Below w1.heap.size w1 W2 := by subst hW2; exact (Below.refl _ _).alloc (Nat.le_refl _) _
  have M2 := Lib.hid (M1.out.keep f2)
  have B2 := Lib.hid (B1.out.trans (f2.mono B1.out.size))
  clear f2 hW2 M1 B1
  have C := soundAny M2.out HP.out
  rw [HSV.out] at C
  go_wp2_with fail
  refine C.mono ?_
  clear C
  rintro e w3 ⟨rfl, b3⟩
  have B3 := Lib.hid (B2.out.trans (b3.mono B2.out.size))
  clear b3 B2
  go_wp2
  go_ret
  exact ⟨rfl, B3.out⟩

end Go.Proofs.Ytllgcnljpehgeaa.M2
