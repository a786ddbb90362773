/-
  Apply of package spec is Run of one. Conditions: at most a thousand items.
-/
import Derived.Test.YtejnadokjnfagaaRunW8
namespace Go.Proofs.Ytejnadokjnfagaa
open Go.RowKit Go.Lib

/-- What Apply leaves. -/
def ApplyPost (w : World) (obj m : Int) (zs : List Int) (k x : Int) (e : Ending) (w' : World) : Prop :=
  ∃ v', e = .returned (.tuple #[v', .agg #[.int .u8 (objC obj m zs k), .int .i32 (objV obj zs k)]]) ∧ Tail w' v' ((objL obj m zs k x).map (Value.int .i32)) ∧ (∀ g, v'.ownBlock = some g → w.heap.size ≤ g) ∧ Below w.heap.size w w'

set_option maxRecDepth 100000 in
set_option maxHeartbeats 8000000 in
theorem applyAny (w : World) (obj most : Int) (ao : Option Addr) (nz capz : Nat) (zs : List Int) (k x : Int) (hz : Reads .i32 w ao nz zs) (hnz : nz ≤ 1000) :
    Calls Try.prog 15 #[.int .u8 obj, .int .i64 most, .slice ao nz capz, .agg #[.int .u8 k, .int .i32 x]] w (ApplyPost w obj (mostOf most) zs k x) := by
  have HZ := Lib.hid hz
  clear hz
  go_enter Try.func15, Try.ntmps15
  go_upto_region 1 with (fail)
  generalize hW : (w.alloc (.cells #[.int .u8 k, .int .i32 x] 36)).alloc (.cells #[.int .u8 0, .int .i32 0] 32) = W
  obtain ⟨o0, o1, b0, hb, hs⟩ := begunRef w _ _ W hW
  have HB := Lib.hid hb
  have HB0 := Lib.hid b0
  have HS := Lib.hid hs
  clear hW hb b0 hs
  have hb2 : Below W.heap.size W (W.alloc (.cells #[.int .u8 k, .int .i32 x] 36)) := (Below.refl _ _).alloc (Nat.le_refl _) _
  have hop : OpsAt (W.alloc (.cells #[.int .u8 k, .int .i32 x] 36)) (some ⟨W.heap.size, 0, none⟩) 1 [(k, x)] := ⟨rfl, fun _ => ⟨W.heap.size, 0, rfl, by simp, fun i hi => by
    obtain rfl : i = 0 := by omega
    exact ⟨by go_simp, by go_simp⟩⟩⟩
  have C := runAny (W.alloc (.cells #[.int .u8 k, .int .i32 x] 36)) obj most ao (some ⟨W.heap.size, 0, none⟩) nz capz 1 1 zs [(k, x)] ((HZ.out.keep HB.out).keep hb2) hop hnz (by omega)
  have HC := Lib.hid C
  have HB2 := Lib.hid hb2
  clear C hop hb2
  go_wp2_with fail
  refine HC.out.mono ?_
  rintro e w3 ⟨v', b, rfl, t3, r3, n3, hb3, bl3⟩
  have hW3 : W.heap.size + 1 = (W.alloc (.cells #[.int .u8 k, .int .i32 x] 36)).heap.size := by simp
  have hbb : w.heap.size + 1 + 1 ≤ b := by have := HS.out; omega
  have hBW : Below W.heap.size W w3 := HB2.out.trans (bl3.mono (by omega))
  have b3 : RBox w3 (w.heap.size + 1) 0 0 := (hBW.block _ (by have := HS.out; omega)).trans HB0.out
  obtain ⟨c0, c1⟩ := r3.cells (i := 0) (by simp [runT])
  simp only [runT, List.getD_cons_zero, Nat.zero_mul, Nat.zero_add] at c0 c1
  have HT3 := Lib.hid (show Tail w3 v' ((objL obj (mostOf most) zs k x).map (Value.int .i32)) by simpa [runZ] using t3)
  have HN3 := Lib.hid (show ∀ g, v'.ownBlock = some g → w.heap.size + 1 + 1 ≤ g from fun g hg => by have := (n3 g hg).1; have := HS.out; omega)
  have HB3 := Lib.hid (HB.out.trans (hBW.mono HB.out.size))
  have HX := Lib.hid b3
  clear t3 r3 n3 hb3 bl3 hW3 hBW o0 o1
  have d0 := b3.c0
  have d1 := b3.c1
  have df := b3.f
  clear b3
  obtain ⟨rc, hrc⟩ : ∃ c, objC obj (mostOf most) zs k = c := ⟨_, rfl⟩
  obtain ⟨rv, hrv⟩ : ∃ c, objV obj zs k = c := ⟨_, rfl⟩
  rw [hrc] at c0
  rw [hrv] at c1
  have HRC := Lib.hid (And.intro hrc hrv)
  clear hrc hrv
  have i0 : (0 : Int) < 1 := by omega
  simp only [List.length_cons, List.length_nil, Nat.zero_add]
  have hne : b ≠ w.heap.size + 1 := by omega
  go_wp2_with fail
  go_region
  all_goals
    have r := (HX.out.set2 rc rv)
    have r0 := r.c0
    have r1 := r.c1
    have HE := Lib.hid (show ApplyPost w obj (mostOf most) zs k x (.returned (.tuple #[v', .agg #[.int .u8 rc, .int .i32 rv]])) ((w3.setCell ⟨w.heap.size + 1, 0, none⟩ (.int .u8 rc)).setCell ⟨w.heap.size + 1, 1, none⟩ (.int .i32 rv)).drew from
      ⟨v', by rw [HRC.out.1, HRC.out.2], ((HT3.out.other (p := ⟨w.heap.size + 1, 0, none⟩) (fun e => by have := HN3.out (w.heap.size + 1) e; omega) _).other (p := ⟨w.heap.size + 1, 1, none⟩) (fun e => by have := HN3.out (w.heap.size + 1) e; omega) _).drew, fun g hg => by have := HN3.out g hg; omega, ((HB3.out.setCell (p := ⟨w.heap.size + 1, 0, none⟩) (by simp) _).setCell (p := ⟨w.heap.size + 1, 1, none⟩) (by simp) _).drew⟩)
    clear r c0 c1 d0 d1 df
    go_wp2
    exact bodyPost_ret (v := .tuple #[v', .agg #[.int .u8 rc, .int .i32 rv]]) (by simp [results, Try.results15, go_sem, r0, r1]) rfl HE.out

end Go.Proofs.Ytejnadokjnfagaa
