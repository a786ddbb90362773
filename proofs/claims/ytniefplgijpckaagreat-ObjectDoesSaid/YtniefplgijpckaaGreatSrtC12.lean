/-
  slices.symMergeCmpFunc merges two sorted ranges of a row of ints that lie side by side, however many numbers they have. Conditions: a row of one's own; a comparison as CmpAt says; the left numbers are less than the right ones. slices.SortStableFunc sorts a row of ints that rises, by keys, and keeps the order of those of one key. Conditions: a row of one's own; a comparison as CmpAt says. slices.SortStableFunc sorts a row of ints that rises, by keys, and keeps the order of those of one key. Conditions: a row of one's own; a comparison as CmpAt says.
-/
import Derived.Test.YtniefplgijpckaaGreatSymO11m
namespace Go.Proofs.YtniefplgijpckaaGreat
open Go.RowKit

theorem symAll {g n cap : Nat} (key : Int → Int) (N : Int) (B : Nat) (hn : n ≤ 1000000) : ∀ K, SymSaid g n cap key N B K := by
  intro K
  induction K with
  | zero => intro w P L R S a m b hK; omega
  | succ K ih =>
    intro w P L R S a m b hK h hr hC ha hm hb
    by_cases h1 : 1 < L.length
    · by_cases h2 : 1 < R.length
      · exact symMain ih w P L R S a m b (by omega) h hr hC h1 h2 ha hm hb hn
      · obtain ⟨y, rfl⟩ := List.length_eq_one_iff.1 (show R.length = 1 by have := h.r0; omega)
        exact symRight w P L S y a m b hr hC h.ls (fun x hx => h.lt x hx y (by simp)) h1 (fun x hx => h.ok x (by simp at hx ⊢; rcases hx with h3 | h3; exact .inr h3; exact .inl h3)) ha hm (by simpa using hb) hn
    · obtain ⟨x, rfl⟩ := List.length_eq_one_iff.1 (show L.length = 1 by have := h.l0; omega)
      exact symLeft w P R S x a m b hr hC h.rs (fun y hy => h.lt x (by simp) y hy) (fun y hy => h.ok y (by simpa using hy)) ha (by simpa using hm) (by simpa using hb) hn

theorem symMerge {g n cap : Nat} {key : Int → Int} {N : Int} {B : Nat} (w : World) (P L R S : List Int) (a m b : Int) (h : TwoOk key N L R) (hr : IRow w g n cap (P ++ L ++ R ++ S)) (hC : CmpAt key N B g w) (ha : a = P.length) (hm : m = P.length + L.length) (hb : b = P.length + L.length + R.length) (hn : n ≤ 1000000) :
    Calls Tryz.prog 165 #[.slice (some ⟨g, 0, none⟩) n cap, .int .i64 a, .int .i64 m, .int .i64 b, .func (.func 158) #[] #[.pointer (some ⟨B, 0, none⟩)]] w (Sortd w g n cap key P (L ++ R) S) :=
  symAll key N B hn (L.length + R.length + 1) w P L R S a m b (by omega) h hr hC ha hm hb

end Go.Proofs.YtniefplgijpckaaGreat
namespace Go.Proofs.YtniefplgijpckaaGreat
open Go.RowKit

/-- The first k blocks are sorted; behind them all is as it was. -/
def Stab1 (key : Int → Int) (z d : List Int) (k : Nat) : Prop := d.length = z.length ∧ (∀ i, i < k → BlkOk key 20 i z d) ∧ d.drop (20 * k) = z.drop (20 * k)
/-- The first k blocks of 2 s are sorted; behind them those of s are. -/
def Stab2 (key : Int → Int) (s : Nat) (z d : List Int) (k : Nat) : Prop := d.length = z.length ∧ (∀ i, i < k → BlkOk key (2 * s) i z d) ∧ ∀ i, 2 * k ≤ i → BlkOk key s i z d

theorem blkOk_none {key : Int → Int} {s i : Nat} {z d : List Int} (hl : d.length = z.length) (h : z.length ≤ s * i) : BlkOk key s i z d := by
  unfold BlkOk
  rw [blk_none (by omega), blk_none h]
  exact ⟨List.Pairwise.nil, List.Perm.refl _⟩

theorem stab1_start (key : Int → Int) (z : List Int) : Stab1 key z z 0 := ⟨rfl, fun i hi => by omega, rfl⟩
/-- One block more. -/
theorem stab1_next {key : Int → Int} {z d M : List Int} {k : Nat} (h : Stab1 key z d k) (hk : 20 * k + 20 ≤ z.length) (hp : M.Perm ((d.drop (20 * k)).take 20)) (hs : Srt key M) : Stab1 key z (d.take (20 * k) ++ M ++ d.drop (20 * k + 20)) (k + 1) := by
  obtain ⟨h1, h2, h3⟩ := h
  have hM : M.length = 20 := by rw [hp.length_eq]; simp; omega
  have hT : (d.take (20 * k)).length = 20 * k := by simp; omega
  refine ⟨by simp; omega, fun i hi => ?_, ?_⟩
  · rcases Nat.lt_or_ge i k with h4 | h4
    · obtain ⟨a1, a2⟩ := h2 i h4
      have e : blk 20 i (d.take (20 * k) ++ M ++ d.drop (20 * k + 20)) = blk 20 i d := by
        rw [List.append_assoc, blk_ahead (a := 20 * k) hT.symm (by omega)]
        conv => rhs; rw [← List.take_append_drop (20 * k) d]
        rw [blk_ahead (a := 20 * k) hT.symm (by omega)]
      unfold BlkOk
      rw [e]
      exact ⟨a1, a2⟩
    · obtain rfl : i = k := by omega
      unfold BlkOk
      rw [blk_here hT (.inl hM)]
      refine ⟨hs, ?_⟩
      rw [h3] at hp
      exact hp
  · rw [show 20 * (k + 1) = (d.take (20 * k) ++ M).length by simp; omega, List.drop_left]
    have : d.drop (20 * k + 20) = z.drop (20 * k + 20) := by rw [← List.drop_drop, ← List.drop_drop, h3]
    rw [this, show (d.take (20 * k) ++ M).length = 20 * k + 20 by simp; omega]
/-- The rest. -/
theorem stab1_end {key : Int → Int} {z d M : List Int} {k : Nat} (h : Stab1 key z d k) (hk : z.length < 20 * k + 20) (hk0 : 20 * k ≤ z.length) (hp : M.Perm (d.drop (20 * k))) (hs : Srt key M) : Stab2 key 20 z (d.take (20 * k) ++ M) 0 := by
  obtain ⟨h1, h2, h3⟩ := h
  have hM : M.length = d.length - 20 * k := by rw [hp.length_eq]; simp
  have hT : (d.take (20 * k)).length = 20 * k := by simp; omega
  have hl : (d.take (20 * k) ++ M).length = z.length := by simp; omega
  refine ⟨hl, fun i hi => by omega, fun i _ => ?_⟩
  rcases Nat.lt_trichotomy i k with h4 | h4 | h4
  · obtain ⟨a1, a2⟩ := h2 i h4
    have e : blk 20 i (d.take (20 * k) ++ M) = blk 20 i d := by
      rw [blk_ahead (a := 20 * k) hT.symm (by omega)]
      conv => rhs; rw [← List.take_append_drop (20 * k) d]
      rw [blk_ahead (a := 20 * k) hT.symm (by omega)]
    unfold BlkOk
    rw [e]
    exact ⟨a1, a2⟩
  · subst h4
    have e : blk 20 i (d.take (20 * i) ++ M) = M := by
      have := blk_here (bs := 20) (i := i) (p := d.take (20 * i)) (m := M) (s := []) hT (.inr ⟨by omega, rfl⟩)
      simpa using this
    unfold BlkOk
    rw [e]
    refine ⟨hs, ?_⟩
    rw [h3] at hp
    unfold blk
    rw [List.take_of_length_le (by simp; omega)]
    exact hp
  · exact blkOk_none hl (by
      have : 20 * (k + 1) ≤ 20 * i := Nat.mul_le_mul_left _ (by omega)
      omega)

/-- Two blocks become one. -/
theorem stab2_next {key : Int → Int} {s : Nat} {z d M : List Int} {k b : Nat} (h : Stab2 key s z d k) (hk : 2 * s * k ≤ z.length) (hb : b = min (2 * s * k + 2 * s) z.length) (hp : M.Perm (blk s (2 * k) d ++ blk s (2 * k + 1) d)) (hs : Srt key M) :
    Stab2 key s z (d.take (2 * s * k) ++ M ++ d.drop b) (k + 1) := by
  obtain ⟨h1, h2, h3⟩ := h
  have p1 := (h3 (2 * k) (Nat.le_refl _)).2
  have p2 := (h3 (2 * k + 1) (by omega)).2
  have hM : M.length = (blk (2 * s) k d).length := by rw [hp.length_eq, blk_two]
  have hB : (blk (2 * s) k d).length = b - 2 * s * k := by unfold blk; simp; omega
  have hT : (d.take (2 * s * k)).length = 2 * s * k := by simp; omega
  have hl : (d.take (2 * s * k) ++ M ++ d.drop b).length = z.length := by simp; omega
  have e0 : 2 * s * k + 2 * s = 2 * s * (k + 1) := by rw [Nat.mul_add, Nat.mul_one]
  refine ⟨hl, fun i hi => ?_, fun i hi => ?_⟩
  · rcases Nat.lt_or_ge i k with h4 | h4
    · have hle : 2 * s * i + 2 * s ≤ 2 * s * k := by
        have := Nat.mul_le_mul_left (2 * s) (show i + 1 ≤ k by omega)
        rw [Nat.mul_add, Nat.mul_one] at this
        exact this
      obtain ⟨a1, a2⟩ := h2 i h4
      have e : blk (2 * s) i (d.take (2 * s * k) ++ M ++ d.drop b) = blk (2 * s) i d := by
        rw [List.append_assoc, blk_ahead (a := 2 * s * k) hT.symm hle]
        conv => rhs; rw [← List.take_append_drop (2 * s * k) d]
        rw [blk_ahead (a := 2 * s * k) hT.symm hle]
      unfold BlkOk
      rw [e]
      exact ⟨a1, a2⟩
    · obtain rfl : i = k := by omega
      unfold BlkOk
      have hm : M.length = 2 * s ∨ (M.length ≤ 2 * s ∧ d.drop b = []) := by
        rcases Nat.lt_or_ge z.length (2 * s * i + 2 * s) with h5 | h5
        · right; exact ⟨by omega, List.drop_eq_nil_of_le (by omega)⟩
        · left; omega
      rw [blk_here hT hm]
      refine ⟨hs, hp.trans ?_⟩
      rw [blk_two]
      exact p1.append p2
  · obtain ⟨a1, a2⟩ := h3 i (by omega)
    rcases Nat.lt_or_ge z.length (2 * s * k + 2 * s) with h5 | h5
    · refine blkOk_none hl ?_
      have : s * (2 * (k + 1)) ≤ s * i := Nat.mul_le_mul_left _ hi
      have e : s * (2 * (k + 1)) = 2 * s * (k + 1) := by rw [← Nat.mul_assoc, Nat.mul_comm s 2]
      omega
    · have e : blk s i (d.take (2 * s * k) ++ M ++ d.drop b) = blk s i d := by
        have hb' : b = 2 * s * k + 2 * s := by omega
        have hle : (d.take (2 * s * k) ++ M).length ≤ s * i := by
          have : s * (2 * (k + 1)) ≤ s * i := Nat.mul_le_mul_left _ hi
          have e : s * (2 * (k + 1)) = 2 * s * (k + 1) := by rw [← Nat.mul_assoc, Nat.mul_comm s 2]
          simp
          omega
        conv => rhs; rw [← List.take_append_drop b d]
        exact blk_behind (by simp; omega) hle
      unfold BlkOk
      rw [e]
      exact ⟨a1, a2⟩
/-- All pairs are through: blocks of twice as many. -/
theorem stab2_done {key : Int → Int} {s : Nat} {z d : List Int} {k : Nat} (h : Stab2 key s z d k) (hk : z.length ≤ 2 * s * k + s) : Stab2 key (2 * s) z d 0 := by
  obtain ⟨h1, h2, h3⟩ := h
  refine ⟨h1, fun i hi => by omega, fun i _ => ?_⟩
  rcases Nat.lt_or_ge i k with h4 | h4
  · exact h2 i h4
  · have e1 := h3 (2 * i) (by omega)
    unfold BlkOk
    have hn : ∀ l : List Int, l.length = z.length → blk s (2 * i + 1) l = [] := fun l hl => blk_none (by
      have : 2 * s * k ≤ 2 * s * i := Nat.mul_le_mul_left _ h4
      have e : s * (2 * i + 1) = 2 * s * i + s := by rw [Nat.mul_add, Nat.mul_one, ← Nat.mul_assoc, Nat.mul_comm s 2]
      omega)
    rw [blk_two, blk_two, hn d h1, hn z rfl, List.append_nil, List.append_nil]
    exact e1
theorem stab2_end {key : Int → Int} {s : Nat} {z d : List Int} (h : Stab2 key s z d 0) (hs : z.length ≤ s) : d.Perm z ∧ Srt key d := by
  obtain ⟨h1, _, h3⟩ := h
  obtain ⟨a1, a2⟩ := h3 0 (by omega)
  rw [blk_all (by omega)] at a1 a2
  rw [blk_all hs] at a2
  exact ⟨a2, a1⟩

/-- Two blocks side by side may be merged. -/
theorem stab2_two {key : Int → Int} {s : Nat} {z d : List Int} {k : Nat} {N : Int} (h : Stab2 key s z d k) (hz : Rises N z) (hs : 0 < s) (hk : 2 * s * k + s < z.length) : TwoOk key N (blk s (2 * k) d) (blk s (2 * k + 1) d) := by
  obtain ⟨h1, _, h3⟩ := h
  obtain ⟨a1, a2⟩ := h3 (2 * k) (Nat.le_refl _)
  obtain ⟨b1, b2⟩ := h3 (2 * k + 1) (by omega)
  have e : s * (2 * k + 1) = 2 * s * k + s := by rw [Nat.mul_add, Nat.mul_one, ← Nat.mul_assoc, Nat.mul_comm s 2]
  have e' : s * (2 * k) = 2 * s * k := by rw [← Nat.mul_assoc, Nat.mul_comm s 2]
  refine ⟨by unfold blk; simp; omega, by unfold blk; simp; omega, a1, b1, fun x hx y hy => blk_rise hz.up x (a2.mem_iff.1 hx) y (b2.mem_iff.1 hy), fun x hx => hz.ok x ?_⟩
  rcases List.mem_append.1 hx with h4 | h4
  · exact List.mem_of_mem_drop (List.mem_of_mem_take (a2.mem_iff.1 h4))
  · exact List.mem_of_mem_drop (List.mem_of_mem_take (b2.mem_iff.1 h4))

theorem two_parts {s k b : Nat} {d : List Int} (hb : b = min (2 * s * k + 2 * s) d.length) (_ : 2 * s * k ≤ d.length) : d = d.take (2 * s * k) ++ blk s (2 * k) d ++ blk s (2 * k + 1) d ++ d.drop b := by
  rw [List.append_assoc (d.take _), ← blk_two]
  unfold blk
  have e : (d.drop (2 * s * k)).take (2 * s) ++ d.drop b = d.drop (2 * s * k) := by
    rcases Nat.lt_or_ge d.length (2 * s * k + 2 * s) with h | h
    · rw [List.take_of_length_le (by simp; omega), List.drop_eq_nil_of_le (show d.length ≤ b by omega), List.append_nil]
    · have : d.drop b = (d.drop (2 * s * k)).drop (2 * s) := by rw [List.drop_drop]; congr 1; omega
      rw [this, List.take_append_drop]
  rw [List.append_assoc, e, List.take_append_drop]

end Go.Proofs.YtniefplgijpckaaGreat
namespace Go.Proofs.YtniefplgijpckaaGreat
open Go.RowKit

def SortedRow (w : World) (g n cap : Nat) (key : Int → Int) (z : List Int) (e : Ending) (w' : World) : Prop :=
  e = .returned (.tuple #[]) ∧ ∃ M : List Int, M.Perm z ∧ Srt key M ∧ IRow w' g n cap M ∧ Wrote (At1 g) w w'

theorem Rises.sub {N : Int} {X Y : List Int} (h : Rises N X) (s : Y.Sublist X) : Rises N Y := ⟨List.Pairwise.sublist s h.up, fun x hx => h.ok x (s.subset hx)⟩

set_option maxRecDepth 100000 in
set_option maxHeartbeats 16000000 in
theorem stableAny (w : World) {g n cap : Nat} {key : Int → Int} {N : Int} {B : Nat} (z : List Int) (h : IRow w g n cap z) (hC : CmpAt key N B g w) (hz : Rises N z) (hn : n ≤ 1000000) :
    Calls Tryz.prog 162 #[.slice (some ⟨g, 0, none⟩) n cap, .int .i64 n, .func (.func 158) #[] #[.pointer (some ⟨B, 0, none⟩)]] w (SortedRow w g n cap key z) := by
  have hl := h.len
  have HC := Lib.hid hC
  have HZ := Lib.hid hz
  have HL := Lib.hid hl
  have HS := Lib.hid h
  clear h hC hz hl
  go_enter Tryz.func162, Tryz.ntmps162
  go_wp2_with (fail)
  go_loopw [7, 8] (fun a b wr => ∃ (az bz : Int) (k : Nat) (d : List Int), a = .int .i64 az ∧ b = .int .i64 bz ∧ az = 20 * k ∧ bz = 20 * k + 20 ∧ 20 * k ≤ n ∧ Stab1 key z d k ∧ IRow wr g n cap d ∧ Wrote (At1 g) w wr) (fun a _ _ => n + 1 - (intOf a).toNat)
  case atStart => exact ⟨0, 20, 0, z, rfl, rfl, rfl, rfl, Nat.zero_le _, stab1_start _ _, HS.out, Wrote.refl _ _⟩
  case round =>
    obtain ⟨az, bz, k, d, rfl, rfl, haz, hbz, hkn, hd, hr, hw⟩ := hrel
    clear HS
    by_cases hlt : 20 * k + 20 ≤ n
    · have hdl : d.length = n := hr.len
      have e : d = d.take (20 * k) ++ (d.drop (20 * k)).take 20 ++ d.drop (20 * k + 20) := by
        rw [List.append_assoc, ← List.drop_drop, List.take_append_drop, List.take_append_drop]
      have C := insSort wr g n cap key N B (d.take (20 * k)) ((d.drop (20 * k)).take 20) (d.drop (20 * k + 20)) az bz (by rw [← e]; exact hr) (HC.out.later hw) (by rw [hd.2.2]; exact HZ.out.sub ((List.take_sublist _ _).trans (List.drop_sublist _ _))) (by simp; omega) (by simp; omega) hn
      have HCC := Lib.hid C
      have HK := Lib.hid (And.intro haz (And.intro hbz hd))
      have HW := Lib.hid hw
      have z1 : bz ≤ n := by omega
      have z0 : 0 ≤ bz := by omega
      have z2 : 0 ≤ az := by omega
      clear C haz hbz hd hr hw e hdl
      go_wp2_with (fail)
      refine HCC.out.mono ?_
      rintro e w2 ⟨rfl, M, p, s, r, h2⟩
      have HR := Lib.hid (And.intro (stab1_next HK.out.2.2 (by rw [HL.out]; exact hlt) p s) (And.intro r (HW.out.trans h2)))
      clear p s r h2 HCC HW
      go_wp2
      go_roundw
      case rel => exact ⟨bz, bz + 20, k + 1, _, rfl, by go_num, by have := HK.out; omega, by have := HK.out; omega, by omega, HR.out.1, HR.out.2.1, HR.out.2.2⟩
      case measure => have := HK.out; simp [intOf]; omega
    · have hdl : d.length = n := hr.len
      have e : d = d.take (20 * k) ++ d.drop (20 * k) ++ [] := by rw [List.append_nil, List.take_append_drop]
      have C := insSort wr g n cap key N B (d.take (20 * k)) (d.drop (20 * k)) [] az n (by rw [← e]; exact hr) (HC.out.later hw) (by rw [hd.2.2]; exact HZ.out.sub (List.drop_sublist _ _)) (by simp; omega) (by simp; omega) hn
      have HCC := Lib.hid C
      have HK := Lib.hid (And.intro haz (And.intro hbz hd))
      have HW := Lib.hid hw
      have z1 : ¬ bz ≤ n := by omega
      have z0 : 0 ≤ bz := by omega
      have z2 : 0 ≤ az := by omega
      clear C haz hbz hd hr hw e hdl
      go_wp2_with (fail)
      refine HCC.out.mono ?_
      rintro e w2 ⟨rfl, M, p, s, r, h2⟩
      have HR := Lib.hid (And.intro (stab1_end HK.out.2.2 (by rw [HL.out]; omega) (by rw [HL.out]; exact hkn) p s) (And.intro (show IRow w2 g n cap (d.take (20 * k) ++ M) by simpa using r) (HW.out.trans h2)))
      clear p s r h2 HCC HW HK z1 z0 z2 hlt hkn
      generalize d.take (20 * k) ++ M = d at *
      clear k
      generalize wr = wo at *
      go_wp2_with (fail)
      go_loopw [6] (fun b wr => ∃ (sz : Int) (s : Nat) (d : List Int), b = .int .i64 sz ∧ sz = s ∧ 0 < s ∧ s ≤ 2000020 ∧ Stab2 key s z d 0 ∧ IRow wr g n cap d ∧ Wrote (At1 g) w wr) (fun b _ => n - (intOf b).toNat)
      case atStart => exact ⟨20, 20, _, rfl, rfl, by omega, by omega, HR.out.1, HR.out.2.1, HR.out.2.2⟩
      case round =>
        obtain ⟨sz, s, d, rfl, hsz, hs0, hs1, hd, hr, hw⟩ := hrel
        clear HR
        by_cases hlt : s < n
        · have k1 : sz < n := by omega
          have k0 : 0 < sz := by omega
          have HR := Lib.hid (And.intro hd (And.intro hr hw))
          have HK := Lib.hid hsz
          clear hd hr hw hsz
          generalize wr = wq at *
          go_wp2_with (fail)
          go_loopw [7, 8] (fun a b wr => ∃ (az bz : Int) (k A : Nat) (d : List Int), a = .int .i64 az ∧ b = .int .i64 bz ∧ az = A ∧ bz = A + 2 * s ∧ A = 2 * s * k ∧ A ≤ n ∧ Stab2 key s z d k ∧ IRow wr g n cap d ∧ Wrote (At1 g) w wr) (fun a _ _ => n + 1 - (intOf a).toNat)
          case atStart => exact ⟨0, 2 * sz, 0, 0, d, rfl, by go_num, rfl, by have := HK.out; omega, by simp, Nat.zero_le _, HR.out.1, HR.out.2.1, HR.out.2.2⟩
          case round =>
            obtain ⟨az, bz, k, A, d, rfl, rfl, haz, hbz, hA, hAn, hd, hr, hw⟩ := hrel
            clear HR
            have hdl : d.length = n := hr.len
            by_cases hle : A + 2 * s ≤ n
            · have hb : A + 2 * s = min (2 * s * k + 2 * s) d.length := by omega
              have e := two_parts hb (by omega)
              have l1 : (d.take (2 * s * k)).length = A := by simp; omega
              have es : s * (2 * k) = A := by rw [hA, ← Nat.mul_assoc, Nat.mul_comm s 2]
              have es2 : s * (2 * k + 1) = A + s := by rw [Nat.mul_add, Nat.mul_one, es]
              have l2 : (blk s (2 * k) d).length = s := by unfold blk; rw [es]; simp; omega
              have l3 : (blk s (2 * k + 1) d).length = s := by unfold blk; rw [es2]; simp; omega
              have C := symMerge wr (d.take (2 * s * k)) (blk s (2 * k) d) (blk s (2 * k + 1) d) (d.drop (A + 2 * s)) az (az + sz) bz (stab2_two hd HZ.out hs0 (by rw [HL.out]; omega)) (by rw [← e]; exact hr) (HC.out.later hw) (by omega) (by have := HK.out; omega) (by omega) hn
              have HCC := Lib.hid C
              have HD := Lib.hid (And.intro haz (And.intro hbz (And.intro hA (And.intro hd hb))))
              have HW := Lib.hid hw
              have z1 : bz ≤ n := by omega
              have z2 : 0 ≤ az := by omega
              have z3 : az ≤ n := by omega
              have z4 : sz ≤ 2000020 := by have := HK.out; omega
              have z5 : 0 ≤ bz := by omega
              clear C haz hbz hA hd hr hw e l1 es es2 l2 l3 hb
              go_wp2_with (fail)
              refine HCC.out.mono ?_
              rintro e w2 ⟨rfl, M, p, q, r, h2⟩
              have HR := Lib.hid (And.intro (stab2_next HD.out.2.2.2.1 (by rw [HL.out]; have := HD.out; omega) (show A + 2 * s = min (2 * s * k + 2 * s) z.length by rw [HL.out]; have := HD.out; omega) p q) (And.intro r (HW.out.trans h2)))
              clear p q r h2 HCC HW
              go_wp2
              go_roundw
              case rel => exact ⟨bz, bz + 2 * sz, k + 1, A + 2 * s, _, rfl, by go_num, by have := HD.out; omega, by have := HD.out; have := HK.out; omega, by have := HD.out; rw [Nat.mul_add, Nat.mul_one]; omega, hle, HR.out.1, HR.out.2.1, HR.out.2.2⟩
              case measure => have := HD.out; have := HK.out; simp [intOf]; omega
            · by_cases hm : A + s < n
              · have hb : n = min (2 * s * k + 2 * s) d.length := by omega
                have e := two_parts hb (by omega)
                have l1 : (d.take (2 * s * k)).length = A := by simp; omega
                have es : s * (2 * k) = A := by rw [hA, ← Nat.mul_assoc, Nat.mul_comm s 2]
                have es2 : s * (2 * k + 1) = A + s := by rw [Nat.mul_add, Nat.mul_one, es]
                have l2 : (blk s (2 * k) d).length = s := by unfold blk; rw [es]; simp; omega
                have l3 : (blk s (2 * k + 1) d).length = n - (A + s) := by unfold blk; rw [es2]; simp; omega
                have C := symMerge wr (d.take (2 * s * k)) (blk s (2 * k) d) (blk s (2 * k + 1) d) (d.drop n) az (az + sz) n (stab2_two hd HZ.out hs0 (by rw [HL.out]; omega)) (by rw [← e]; exact hr) (HC.out.later hw) (by omega) (by have := HK.out; omega) (by omega) hn
                have HCC := Lib.hid C
                have HD := Lib.hid (And.intro haz (And.intro hbz (And.intro hA (And.intro hd hb))))
                have HW := Lib.hid hw
                have z1 : ¬ bz ≤ n := by omega
                have z2 : 0 ≤ az := by omega
                have z3 : az ≤ n := by omega
                have z4 : sz ≤ 2000020 := by have := HK.out; omega
                have z5 : az + sz < n := by have := HK.out; omega
                clear C haz hbz hA hd hr hw e l1 es es2 l2 l3 hb
                go_wp2_with (fail)
                refine HCC.out.mono ?_
                rintro e w2 ⟨rfl, M, p, q, r, h2⟩
                have HR := Lib.hid (And.intro (stab2_done (stab2_next HD.out.2.2.2.1 (by rw [HL.out]; have := HD.out; omega) (show n = min (2 * s * k + 2 * s) z.length by rw [HL.out]; have := HD.out; omega) p q) (by rw [HL.out, Nat.mul_add, Nat.mul_one]; have := HD.out; omega)) (And.intro r (HW.out.trans h2)))
                clear p q r h2 HCC HW
                go_wp2
                go_roundw
                case rel => exact ⟨sz * 2, 2 * s, _, by go_num, by have := HK.out; omega, by omega, by omega, HR.out.1, HR.out.2.1, HR.out.2.2⟩
                case measure => have := HK.out; simp [intOf]; omega
              · have HR := Lib.hid (And.intro (stab2_done hd (by rw [HL.out]; omega)) (And.intro hr hw))
                have z1 : ¬ bz ≤ n := by omega
                have z2 : 0 ≤ az := by omega
                have z3 : az ≤ n := by omega
                have z4 : sz ≤ 2000020 := by have := HK.out; omega
                have z5 : ¬ az + sz < n := by have := HK.out; omega
                clear haz hbz hA hd hr hw
                go_wp2
                go_roundw
                case rel => exact ⟨sz * 2, 2 * s, _, by go_num, by have := HK.out; omega, by omega, by omega, HR.out.1, HR.out.2.1, HR.out.2.2⟩
                case measure => have := HK.out; simp [intOf]; omega
        · have k1 : ¬ sz < n := by omega
          have he := stab2_end hd (by rw [HL.out]; omega)
          have HE := Lib.hid (show SortedRow w g n cap key z (.returned (.tuple #[])) wr from ⟨rfl, d, he.1, he.2, hr, hw⟩)
          clear he hd hr hw hsz
          go_wp2
          go_end0
          exact HE.out

set_option maxRecDepth 100000 in
set_option maxHeartbeats 4000000 in
theorem sortStable (w : World) {g n cap : Nat} {key : Int → Int} {N : Int} {B : Nat} (z : List Int) (h : IRow w g n cap z) (hC : CmpAt key N B g w) (hz : Rises N z) (hn : n ≤ 1000000) :
    Calls Tryz.prog 157 #[.slice (some ⟨g, 0, none⟩) n cap, .func (.func 158) #[] #[.pointer (some ⟨B, 0, none⟩)]] w (SortedRow w g n cap key z) := by
  have HC := Lib.hid (stableAny w z h hC hz hn)
  clear h hC hz
  go_enter Tryz.func157, Tryz.ntmps157
  go_wp2_with (fail)
  refine HC.out.mono ?_
  rintro e w2 ⟨rfl, M, p, s, r, h2⟩
  have HR := Lib.hid (show SortedRow w g n cap key z (.returned (.tuple #[])) w2 from ⟨rfl, M, p, s, r, h2⟩)
  clear p s r h2
  go_wp2
  go_end0
  exact HR.out

/-- Nothing is sorted. -/
theorem insNil (w : World) (f : Value) (b : Int) (hb : b ≤ 1) :
    Calls Tryz.prog 164 #[.slice none 0 0, .int .i64 0, .int .i64 b, f] w fun e w' => e = .returned (.tuple #[]) ∧ w = w' := by
  have h1 : ¬ 1 < b := by omega
  go_enter Tryz.func164, Tryz.ntmps164
  go_wp2
  refine wp_loop_rounds 1 ?_
  rw [rounds_succ]
  go_wp2
  go_end0
  exact ⟨rfl, rfl⟩
theorem stableNil (w : World) (f : Value) :
    Calls Tryz.prog 162 #[.slice none 0 0, .int .i64 0, f] w fun e w' => e = .returned (.tuple #[]) ∧ w = w' := by
  go_enter Tryz.func162, Tryz.ntmps162
  go_wp2
  refine wp_loop_rounds 1 ?_
  rw [rounds_succ]
  go_wp2_with (fail)
  refine (insNil w f 0 (by omega)).mono ?_
  rintro e w' ⟨rfl, rfl⟩
  go_wp2
  refine wp_loop_rounds 1 ?_
  rw [rounds_succ]
  go_wp2
  go_end0
  exact ⟨rfl, rfl⟩
theorem sortNil (w : World) (f : Value) :
    Calls Tryz.prog 157 #[.slice none 0 0, f] w fun e w' => e = .returned (.tuple #[]) ∧ w = w' := by
  go_enter Tryz.func157, Tryz.ntmps157
  go_wp2_with (fail)
  refine (stableNil w f).mono ?_
  rintro e w' ⟨rfl, rfl⟩
  go_wp2
  go_end0
  exact ⟨rfl, rfl⟩

end Go.Proofs.YtniefplgijpckaaGreat
