/-
  The walk of RecordFields: for all numbers and lists it answers true and leaves all old memory as it was.
-/
import Derived.Test.YteckfbghldlkgaaRow13m
namespace Go.Proofs.Yteckfbghldlkgaa.M2
open Go.RowKit

/-- The zeros of K records, of which the J-th one's first i cells are those of vs. -/
def Fz (K J : Nat) (vs : List Int) (i : Nat) : List Int := setN (List.replicate (3 + 5 * K) 0) (3 + 5 * J) vs i
theorem Fz_length (K J : Nat) (vs : List Int) (i : Nat) : (Fz K J vs i).length = 3 + 5 * K := by simp [Fz, setN_length]
theorem Fz_at {K J : Nat} (vs : List Int) {t : Nat} (ht : t < 5) (hJ : J < K) : (Fz K J vs 5).getD (3 + 5 * J + t) 0 = vs.getD t 0 :=
  setN_at _ _ _ _ _ ht (by simp; omega)

/-- All that is known between the calls. -/
def FW (w : World) (K J : Nat) (vs zs : List Int) (st : Int) (g : Nat) (wr : World) : Prop :=
  MemG wr w.heap.size w.heap.size (3 + 5 * (K : Int)) zs st g ∧ VR wr g vs ∧ zs.length = 3 + 5 * K ∧ J < K ∧ K ≤ 30 ∧ Below w.heap.size w wr

theorem FW.fresh {w : World} {K J : Nat} {vs zs : List Int} {st : Int} {g : Nat} {a b : World} (h : FW w K J vs zs st g a) (hb : Below a.heap.size a b) : FW w K J vs zs st g b :=
  ⟨h.1.keep hb, h.2.1.keep hb, h.2.2.1, h.2.2.2.1, h.2.2.2.2.1, h.2.2.2.2.2.trans (hb.mono h.2.2.2.2.2.size)⟩

theorem FW.store {w : World} {K J : Nat} {vs zs : List Int} {st : Int} {g : Nat} {a : World} (h : FW w K J vs zs st g a) (x y : Int) (h0 : 0 ≤ x) (h1 : x < 3 + 5 * (K : Int)) (k0 : 0 ≤ st) (k1 : st < 1000000) :
    Calls Try.prog 19 #[.pointer (some ⟨w.heap.size, 0, none⟩), .int .i64 x, .int .i64 y] a fun e w' => e = .returned (.int .u16 0) ∧ FW w K J vs (zs.set x.toNat y) (st + 1) g w' := by
  refine (storeG h.1 x y h0 (by have := h.2.2.1; omega) k0 k1).mono ?_
  rintro e w' ⟨rfl, m, b, hg⟩
  exact ⟨rfl, m, hg.trans h.2.1, by simp [h.2.2.1], h.2.2.2.1, h.2.2.2.2.1, h.2.2.2.2.2.trans b⟩

theorem FW.see {w : World} {K J : Nat} {vs zs : List Int} {st : Int} {g : Nat} {a : World} (h : FW w K J vs zs st g a) (hz : ∀ t, t < 5 → zs.getD (3 + 5 * J + t) 0 = vs.getD t 0) :
    Calls Try.prog 20 #[.pointer (some ⟨w.heap.size, 0, none⟩), .int .i64 (3 + 5 * (J : Int))] a fun e w' =>
      e = .returned (.tuple #[.agg #[.int .i64 (vs.getD 0 0), .int .i64 (vs.getD 1 0), .int .i64 (vs.getD 2 0), .int .i64 (vs.getD 3 0), .int .i64 (vs.getD 4 0)], .bool true]) ∧ Below a.heap.size a w' := by
  have C := seeIn h.1.one J (by have := h.2.2.1; have := h.2.2.2.1; unfold mn; omega)
  have h0 := hz 0 (by omega)
  rw [Nat.add_zero] at h0
  rw [h0, hz 1 (by omega), hz 2 (by omega), hz 3 (by omega), hz 4 (by omega)] at C
  exact C

theorem FW.many {w : World} {K J : Nat} {vs zs : List Int} {st : Int} {g : Nat} {a : World} (h : FW w K J vs zs st g a) :
    Calls Try.prog 17 #[.pointer (some ⟨w.heap.size, 0, none⟩)] a fun e w' => e = .returned (.int .i64 K) ∧ a = w' := by
  have C := many1 h.1.one
  rw [show mn zs.length = K by have := h.2.2.1; unfold mn; omega] at C
  exact C

theorem Fz_set {J : Nat} {vs zs : List Int} (hz : ∀ t, t < 5 → zs.getD (3 + 5 * J + t) 0 = vs.getD t 0) (x : Nat) (o : Int) (hx : ∀ t, t < 5 → x ≠ 3 + 5 * J + t) : ∀ t, t < 5 → (zs.set x o).getD (3 + 5 * J + t) 0 = vs.getD t 0 := by
  intro t ht
  rw [getD_set, if_neg (by have := hx t ht; omega)]
  exact hz t ht

/-- What holds at each round's head. -/
def FieldsRel (w : World) (K J : Nat) (vs : List Int) (g : Nat) (iv : Value) (wr : World) : Prop :=
  ∃ i : Nat, i ≤ 5 ∧ iv = .int .i64 i ∧ FW w K J vs (Fz K J vs i) (2 + i) g wr

set_option maxRecDepth 100000 in
set_option maxHeartbeats 16000000 in
theorem fieldsWalk {w : World} (n q : Int) (ao : Option Addr) (len cap : Nat) (zs : List Int) (o : Int) (_ : 0 ≤ n) (_ : n ≤ 255) (q0 : 0 ≤ q) (q1 : q ≤ 255) (hz : ArgInt64s w ao len cap zs) (_ : len ≤ 140737488351232) (_ : -9223372036854775808 ≤ o) (_ : o ≤ 9223372036854775807) :
    Calls Try.prog 6 #[.int .u8 n, .int .u8 q, .slice ao len cap, .int .i64 o] w fun e w' => e = .returned (.bool true) ∧ Below w.heap.size w w' := by
  have hk := (show 1 ≤ 1 + n % 30 ∧ 1 + n % 30 ≤ 30 from by omega)
  obtain ⟨i0, hi, hz0, hz1, hz2⟩ := info_parts infoInt64
  have HI := Lib.hid hi
  have H0 := Lib.hid hz0
  have H1 := Lib.hid hz1
  have H2 := Lib.hid hz2
  clear hi hz0 hz1 hz2
  have HZ := Lib.hid hz
  clear hz
  go_enter Try.func6, Try.ntmps6
  go_wp2_with fail
  generalize 1 + n % 30 = K at *
  obtain ⟨hk0, hk1⟩ := hk
  obtain ⟨K, rfl⟩ : ∃ N : Nat, K = (N : Int) := ⟨K.toNat, by omega⟩
  refine (openIn K hk0 (by omega) w).mono ?_
  rintro e w1 ⟨rfl, m1, b1⟩
  have C := alloc1 m1 (5 * (K : Int)) (by omega) (by simp <;> omega) (by omega) (by omega)
  have HB1 := Lib.hid b1
  clear m1 b1
  go_wp2_with fail
  refine C.mono ?_
  clear C
  rintro e w2 ⟨rfl, m2, b2⟩
  have HM2 := Lib.hid (show Mem1 w2 w.heap.size w.heap.size (3 + 5 * (K : Int)) (List.replicate (3 + 5 * K) 0) 2 by
    have e1 : [0, 0, 0] ++ List.replicate (5 * (K : Int)).toNat (0 : Int) = List.replicate (3 + 5 * K) 0 := by
      rw [show ([0, 0, 0] : List Int) = List.replicate 3 0 from rfl, List.replicate_append_replicate]
      congr 1
    rw [e1] at m2
    exact m2)
  have HB2 := Lib.hid (HB1.out.trans b2)
  clear m2 b2 HB1
  have j0 : 0 ≤ q % (K : Int) := Int.emod_nonneg _ (by omega)
  have j1 : q % (K : Int) < K := Int.emod_lt_of_pos _ (by omega)
  obtain ⟨vs, hvs, hvl⟩ : ∃ vs : List Int, splice (List.replicate 5 (Value.int .i64 0)) 0 ((zs.take (Nat.min len 5)).map (Value.int .i64)) = vs.map (Value.int .i64) ∧ vs.length = 5 := by
    have hl := HZ.out.1.1
    have hm : Nat.min len 5 ≤ 5 := Nat.min_le_right _ _
    have hm' : Nat.min len 5 ≤ len := Nat.min_le_left _ _
    generalize Nat.min len 5 = m at *
    refine ⟨zs.take m ++ List.replicate (5 - m) 0, ?_, by simp; omega⟩
    simp only [splice, List.take_zero, List.nil_append, Nat.zero_add, List.length_map, List.length_take, List.drop_replicate, List.map_append, List.map_replicate]
    rw [Nat.min_eq_left (by omega)]
  have HVS := Lib.hid hvs
  have hZl : ((zs.take (Nat.min len 5)).map (Value.int .i64)).length = Nat.min len 5 := by
    have hl := HZ.out.1.1
    have hm' : Nat.min len 5 ≤ len := Nat.min_le_left _ _
    rw [List.length_map, List.length_take]
    exact Nat.min_eq_left (by omega)
  have HZL := Lib.hid hZl
  have HS2 := Lib.hid (show 0 < ((zs.take (Nat.min len 5)).map (Value.int .i64)).length → ∃ ad, ao = some ad ∧ ∀ j u, ((zs.take (Nat.min len 5)).map (Value.int .i64))[j]? = some u → w2.cell? (ad.add j) = some u by
    intro hp
    have hl := HZ.out.1.1
    obtain ⟨ad, h1, h2⟩ := reads_src (HZ.out.1.keep HB2.out) (by simp at hp; omega)
    refine ⟨ad, h1, fun j u hu => h2 j u ?_⟩
    simp only [List.getElem?_map, List.getElem?_take] at hu ⊢
    by_cases hj : j < Nat.min len 5
    · simpa [hj] using hu
    · simp [hj] at hu)
  have HC1 := Lib.hid (ints_oneCell .i64 (zs.take (Nat.min len 5)))
  clear hvs hZl
  go_upto_region 7 with (fail)
  generalize q % (K : Int) = J at *
  obtain ⟨J, rfl⟩ : ∃ N : Nat, J = (N : Int) := ⟨J.toNat, by omega⟩
  generalize hZZ : (zs.take (Nat.min len 5)).map (Value.int .i64) = Z at *
  go_upto_region 9 with (first
    | (at_make; refine wpList_make_full _ rfl _ _ 22 rfl w2.heap.size 2 i0 (.int .i64 0) 1 Try.underlying22 HI.out H0.out H1.out _ _ _ _ 5 rfl rfl (by simp) (by simp) (by rw [H2.out]; omega) (by unfold maxLen; omega) (Nat.le_refl _) ?_; intro w3 ho hgr; have HF := Lib.hid (madeFacts ho hgr HS2.out); clear ho hgr)
    | (with_reducible refine wpList_copy_splice rfl (.tmp 33) (.tmp 34) 22 22 rfl 2 Try.underlying22 sizeInt64 _ _ _ _ _ _ rfl rfl w2.heap.size 0 (List.replicate 5 (.int .i64 0)) 2 HF.out.1 Z (by rw [HZL.out]) (fun hp => ⟨rfl, HF.out.2.1 hp⟩) (by rw [HZL.out]; have := Nat.min_le_right len 5; simp; omega) HC1.out w2.heap.size w2 HF.out.2.2 (Nat.le_refl _) ?_; intro w4 hg4 hb4))
  have HW := Lib.hid (show FW w K J vs (Fz K J vs 0) (2 + ((0 : Nat) : Int)) w2.heap.size w4 by
    have hv : VR w4 w2.heap.size vs := by
      have := hg4.out
      rw [HVS.out] at this
      exact this
    exact ⟨HM2.out.beside (Nat.le_refl _) hv.lt hb4, hv, Fz_length _ _ _ _, by omega, by omega, HB2.out.trans (hb4.mono HB2.out.size)⟩)
  have hJK : J < K := by omega
  clear hg4 hb4 HF HVS HZL HS2 HC1 HZ HB2 HM2 HI H0 H1 H2
  generalize w2.heap.size = g at *
  go_wp2
  go_loopw [13] (fun iv wr => FieldsRel w K J vs g iv wr) (fun iv _ => 5 - (intOf iv).toNat)
  case atStart => exact ⟨0, by omega, rfl, HW.out⟩
  case round =>
    obtain ⟨i, hi, rfl, hF⟩ := hrel
    have HF := Lib.hid hF
    clear hF HW
    by_cases hlt : i < 5
    · have i0 : (i : Int) < 5 := by omega
      have hwr : IntKind.i64.wrap (3 + 5 * (J : Int) + (i : Int)) = 3 + 5 * (J : Int) + (i : Int) := IntWalk.i64_in _ (by omega)
      obtain ⟨z, hz⟩ : ∃ z, vs.getD i 0 = z := ⟨_, rfl⟩
      have HFd := Lib.hid (HF.out.fresh (Below.refl _ _).drew)
      have c0 := HF.out.2.1.cell (i := i) (by omega)
      have c1 := HFd.out.2.1.cell (i := i) (by omega)
      have C := Lib.hid (HFd.out.store (3 + 5 * (J : Int) + (i : Int)) z (by omega) (by omega) (by omega) (by omega))
      have HN := Lib.hid (fun w' (h : FW w K J vs ((Fz K J vs i).set (3 + 5 * (J : Int) + (i : Int)).toNat z) (2 + (i : Int) + 1) g w') => h.2.1.cell (i := i) (by omega))
      have HE := Lib.hid (show (Fz K J vs i).set (3 + 5 * (J : Int) + (i : Int)).toNat z = Fz K J vs (i + 1) by
        rw [show (3 + 5 * (J : Int) + (i : Int)).toNat = 3 + 5 * J + i by omega, ← hz]
        rfl)
      rw [hz] at c0 c1 HN
      clear hz HF
      go_wp2
      go_region_held3 (fun w' => w'.cell? ⟨g, i, none⟩ = some (.int .i64 z)) (first | exact c0 | exact c1 | exact c2) (first
        | (go_at_call 13; refine (baseIn (k := (J : Int)) (by omega) (by omega) _).mono ?_; rintro e w' ⟨rfl, rfl⟩)
        | ((with_reducible refine C.out.mono ?_); rintro e w5 ⟨rfl, F5⟩; have c2 := HN.out w5 F5; have HF5 := Lib.hid F5; clear F5))
      all_goals
        clear hwr
        go_wp2
        go_roundw
        case rel => exact ⟨i + 1, by omega, by go_num, by have := HF5.out; rw [HE.out] at this; exact this⟩
        case measure => simp [intOf]; omega
    · obtain rfl : i = 5 := by omega
      have HZ := Lib.hid (fun t ht => Fz_at (K := K) vs (t := t) ht hJK)
      by_cases hK : 1 < K
      · have k1 : 1 < (K : Int) := by omega
        obtain ⟨J2, hJ2⟩ : ∃ N : Nat, ((J : Int) + 1) % (K : Int) = (N : Int) := ⟨(((J : Int) + 1) % (K : Int)).toNat, by have := Int.emod_nonneg ((J : Int) + 1) (show (K : Int) ≠ 0 by omega); omega⟩
        have j2 : J2 < K := by have := Int.emod_lt_of_pos ((J : Int) + 1) (show 0 < (K : Int) by omega); omega
        have j3 : J2 ≠ J := by
          rintro rfl
          by_cases h : (J2 : Int) + 1 < K
          · rw [Int.emod_eq_of_lt (by omega) h] at hJ2
            omega
          · rw [show (J2 : Int) + 1 = K by omega, Int.emod_self] at hJ2
            omega
        have hw1 : IntKind.i64.wrap ((J : Int) + 1) = (J : Int) + 1 := IntWalk.i64_in _ (by omega)
        have HJ3 := Lib.hid j3
        clear j3
        have C := HF.out.store (3 + 5 * (J2 : Int)) o (by omega) (by omega) (by omega) (by omega)
        rw [show (3 + 5 * (J2 : Int)).toNat = 3 + 5 * J2 by omega] at C
        go_wp2_with fail
        refine (baseIn (k := (J2 : Int)) (by omega) (by omega) _).mono ?_
        rintro e w' ⟨rfl, rfl⟩
        go_wp2_with fail
        refine C.mono ?_
        clear C
        rintro e w6 ⟨rfl, F6⟩
        have HF3 := Lib.hid F6
        have HZ3 := Lib.hid (Fz_set HZ.out (3 + 5 * J2) o (by intro t ht; have := HJ3.out; omega))
        clear F6 HF HZ hJ2 hw1 HJ3
        have C := HF3.out.store 0 o (by omega) (by omega) (by omega) (by omega)
        rw [show (0 : Int).toNat = 0 from rfl] at C
        go_wp2_with fail
        refine C.mono ?_
        clear C
        rintro e w7 ⟨rfl, F7⟩
        have C := F7.see (Fz_set HZ3.out 0 o (by intro t _; omega))
        have HF7 := Lib.hid F7
        clear F7 HF3 HZ3
        have HVC := Lib.hid (fun w' (h : VR w' g vs) => (⟨h.cell (i := 0) (by omega), h.cell (i := 1) (by omega), h.cell (i := 2) (by omega), h.cell (i := 3) (by omega), h.cell (i := 4) (by omega)⟩ : _ ∧ _ ∧ _ ∧ _ ∧ _))
        generalize vs.getD 0 0 = x0 at *
        generalize vs.getD 1 0 = x1 at *
        generalize vs.getD 2 0 = x2 at *
        generalize vs.getD 3 0 = x3 at *
        generalize vs.getD 4 0 = x4 at *
        go_wp2_with fail
        refine (baseIn (k := (J : Int)) (by omega) (by omega) _).mono ?_
        rintro e w' ⟨rfl, rfl⟩
        go_wp2_with fail
        refine C.mono ?_
        clear C
        rintro e w8 ⟨rfl, b8⟩
        go_upto_region 17 with (fail)
        generalize hW9 : w8.alloc (.cells #[.int .i64 x0, .int .i64 x1, .int .i64 x2, .int .i64 x3, .int .i64 x4] 45) = W9
        have f9 : Below w7.heap.size w7 W9 := by subst hW9; exact b8.alloc b8.size _
        have HX := Lib.hid (show B5 W9 w8.heap.size 45 x0 x1 x2 x3 x4 by subst hW9; exact B5.new _ _ _ _ _ _ _)
        have HF9 := Lib.hid (HF7.out.fresh f9)
        clear f9 hW9 b8 HF7
        generalize w8.heap.size = gr at *
        have HFd := Lib.hid (HF9.out.fresh (Below.refl _ _).drew)
        have HXd := Lib.hid (show B5 W9.drew gr 45 x0 x1 x2 x3 x4 from HX.out)
        have hr := eqRec x0 x1 x2 x3 x4
        obtain ⟨v0, v1, v2, v3, v4⟩ := HVC.out _ HF9.out.2.1
        obtain ⟨u0, u1, u2, u3, u4⟩ := HVC.out _ HFd.out.2.1
        have r0 := HX.out.c0
        have r1 := HX.out.c1
        have r2 := HX.out.c2
        have r3 := HX.out.c3
        have r4 := HX.out.c4
        have s0 := HXd.out.c0
        have s1 := HXd.out.c1
        have s2 := HXd.out.c2
        have s3 := HXd.out.c3
        have s4 := HXd.out.c4
        have C := Lib.hid (known W9.drew)
        clear HX HF9
        go_wp2
        go_region_held3 (fun w' => w'.cell? ⟨gr, 0, none⟩ = some (.int .i64 x0) ∧ w'.cell? ⟨gr, 1, none⟩ = some (.int .i64 x1) ∧ w'.cell? ⟨gr, 2, none⟩ = some (.int .i64 x2) ∧ w'.cell? ⟨gr, 3, none⟩ = some (.int .i64 x3) ∧ w'.cell? ⟨gr, 4, none⟩ = some (.int .i64 x4) ∧ w'.cell? ⟨g, 0, none⟩ = some (.int .i64 x0) ∧ w'.cell? ⟨g, 1, none⟩ = some (.int .i64 x1) ∧ w'.cell? ⟨g, 2, none⟩ = some (.int .i64 x2) ∧ w'.cell? ⟨g, 3, none⟩ = some (.int .i64 x3) ∧ w'.cell? ⟨g, 4, none⟩ = some (.int .i64 x4)) (first | exact ⟨r0, r1, r2, r3, r4, v0, v1, v2, v3, v4⟩ | exact ⟨s0, s1, s2, s3, s4, u0, u1, u2, u3, u4⟩ | exact ⟨p0, p1, p2, p3, p4, t0, t1, t2, t3, t4⟩) (first
          | ((with_reducible refine M.out.mono ?_); rintro e w' ⟨rfl, rfl⟩)
          | ((with_reducible refine C.out.mono ?_); rintro e w10 ⟨rfl, b10⟩; have HFe := Lib.hid (HFd.out.fresh b10); have HXe := Lib.hid (HXd.out.keep b10); obtain ⟨t0, t1, t2, t3, t4⟩ := HVC.out _ HFe.out.2.1; have p0 := HXe.out.c0; have p1 := HXe.out.c1; have p2 := HXe.out.c2; have p3 := HXe.out.c3; have p4 := HXe.out.c4; have M := Lib.hid HFe.out.many; clear b10))
        all_goals
          go_wp2
          go_ret
          exact ⟨by simp, HFe.out.2.2.2.2.2⟩
      · obtain rfl : K = 1 := by omega
        have HF3 := HF
        have HZ3 := HZ
        clear HF HZ
        have C := HF3.out.store 0 o (by omega) (by omega) (by omega) (by omega)
        rw [show (0 : Int).toNat = 0 from rfl] at C
        go_wp2_with fail
        refine C.mono ?_
        clear C
        rintro e w7 ⟨rfl, F7⟩
        have C := F7.see (Fz_set HZ3.out 0 o (by intro t _; omega))
        have HF7 := Lib.hid F7
        clear F7 HF3 HZ3
        have HVC := Lib.hid (fun w' (h : VR w' g vs) => (⟨h.cell (i := 0) (by omega), h.cell (i := 1) (by omega), h.cell (i := 2) (by omega), h.cell (i := 3) (by omega), h.cell (i := 4) (by omega)⟩ : _ ∧ _ ∧ _ ∧ _ ∧ _))
        generalize vs.getD 0 0 = x0 at *
        generalize vs.getD 1 0 = x1 at *
        generalize vs.getD 2 0 = x2 at *
        generalize vs.getD 3 0 = x3 at *
        generalize vs.getD 4 0 = x4 at *
        go_wp2_with fail
        refine (baseIn (k := (J : Int)) (by omega) (by omega) _).mono ?_
        rintro e w' ⟨rfl, rfl⟩
        go_wp2_with fail
        refine C.mono ?_
        clear C
        rintro e w8 ⟨rfl, b8⟩
        go_upto_region 17 with (fail)
        generalize hW9 : w8.alloc (.cells #[.int .i64 x0, .int .i64 x1, .int .i64 x2, .int .i64 x3, .int .i64 x4] 45) = W9
        have f9 : Below w7.heap.size w7 W9 := by subst hW9; exact b8.alloc b8.size _
        have HX := Lib.hid (show B5 W9 w8.heap.size 45 x0 x1 x2 x3 x4 by subst hW9; exact B5.new _ _ _ _ _ _ _)
        have HF9 := Lib.hid (HF7.out.fresh f9)
        clear f9 hW9 b8 HF7
        generalize w8.heap.size = gr at *
        have HFd := Lib.hid (HF9.out.fresh (Below.refl _ _).drew)
        have HXd := Lib.hid (show B5 W9.drew gr 45 x0 x1 x2 x3 x4 from HX.out)
        have hr := eqRec x0 x1 x2 x3 x4
        obtain ⟨v0, v1, v2, v3, v4⟩ := HVC.out _ HF9.out.2.1
        obtain ⟨u0, u1, u2, u3, u4⟩ := HVC.out _ HFd.out.2.1
        have r0 := HX.out.c0
        have r1 := HX.out.c1
        have r2 := HX.out.c2
        have r3 := HX.out.c3
        have r4 := HX.out.c4
        have s0 := HXd.out.c0
        have s1 := HXd.out.c1
        have s2 := HXd.out.c2
        have s3 := HXd.out.c3
        have s4 := HXd.out.c4
        have C := Lib.hid (known W9.drew)
        clear HX HF9
        go_wp2
        go_region_held3 (fun w' => w'.cell? ⟨gr, 0, none⟩ = some (.int .i64 x0) ∧ w'.cell? ⟨gr, 1, none⟩ = some (.int .i64 x1) ∧ w'.cell? ⟨gr, 2, none⟩ = some (.int .i64 x2) ∧ w'.cell? ⟨gr, 3, none⟩ = some (.int .i64 x3) ∧ w'.cell? ⟨gr, 4, none⟩ = some (.int .i64 x4) ∧ w'.cell? ⟨g, 0, none⟩ = some (.int .i64 x0) ∧ w'.cell? ⟨g, 1, none⟩ = some (.int .i64 x1) ∧ w'.cell? ⟨g, 2, none⟩ = some (.int .i64 x2) ∧ w'.cell? ⟨g, 3, none⟩ = some (.int .i64 x3) ∧ w'.cell? ⟨g, 4, none⟩ = some (.int .i64 x4)) (first | exact ⟨r0, r1, r2, r3, r4, v0, v1, v2, v3, v4⟩ | exact ⟨s0, s1, s2, s3, s4, u0, u1, u2, u3, u4⟩ | exact ⟨p0, p1, p2, p3, p4, t0, t1, t2, t3, t4⟩) (first
          | ((with_reducible refine M.out.mono ?_); rintro e w' ⟨rfl, rfl⟩)
          | ((with_reducible refine C.out.mono ?_); rintro e w10 ⟨rfl, b10⟩; have HFe := Lib.hid (HFd.out.fresh b10); have HXe := Lib.hid (HXd.out.keep b10); obtain ⟨t0, t1, t2, t3, t4⟩ := HVC.out _ HFe.out.2.1; have p0 := HXe.out.c0; have p1 := HXe.out.c1; have p2 := HXe.out.c2; have p3 := HXe.out.c3; have p4 := HXe.out.c4; have M := Lib.hid HFe.out.many; clear b10))
        all_goals
          go_wp2
          go_ret
          exact ⟨by simp, HFe.out.2.2.2.2.2⟩

end Go.Proofs.Yteckfbghldlkgaa.M2
