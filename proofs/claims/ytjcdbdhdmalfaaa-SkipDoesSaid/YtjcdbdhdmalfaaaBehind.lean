/-
  What behind of package skip tells a range: one tower after another on a level, till there is none or a round says 'no more'. Conditions: a chain as Ch says, no block of it twice.
-/
import Derived.Test.YtjcdbdhdmalfaaaStopsSeq
namespace Go.Proofs.Ytjcdbdhdmalfaaa
open Go.RowKit Go.Shelf

attribute [local go_sem] Oper.semAt_some

/-- How many are left where the range stands. -/
def rem (R : List Nat) : Value → Nat
  | .pointer (some a) => (R.dropWhile (fun c => decide (c ≠ a.block))).length
  | _ => 0

theorem drop_at {R : List Nat} {k : Nat} (h : k < R.length) : R.drop k = R.getD k 0 :: R.drop (k + 1) := by
  rw [List.drop_eq_getElem_cons h]; simp [List.getD, h]

theorem rem_at : ∀ {R : List Nat} {k : Nat}, R.Nodup → k ≤ R.length → rem R (nxv (R.drop k)) = R.length - k
  | [], k, _, h => by simp at h; subst h; rfl
  | c :: cs, 0, _, _ => by simp [rem, nxv]
  | c :: cs, k + 1, hn, h => by
    have h2 : k ≤ cs.length := by simpa using h
    have ih := rem_at (R := cs) (k := k) (by simp only [List.nodup_cons] at hn; exact hn.2) h2
    rcases Nat.lt_or_ge k cs.length with hk | hk
    · have hd := drop_at hk
      have hm : c ≠ cs.getD k 0 := fun e => by
        simp only [List.nodup_cons] at hn
        exact hn.1 (by rw [e]; simp [List.getD, hk])
      simp only [List.drop_succ_cons, List.length_cons]
      rw [hd] at ih ⊢
      simp only [rem, nxv] at ih ⊢
      rw [List.dropWhile_cons_of_pos (by simpa using hm), ih]
      omega
    · obtain rfl : k = cs.length := by omega
      simp [rem, nxv]

theorem Ch.at : ∀ {R : List Nat} {w : World} {j q k : Nat}, Ch w j q R → k < R.length → w.cell? ⟨R.getD k 0, 2 + j, none⟩ = some (nxv (R.drop (k + 1)))
  | [], _, _, _, _, _, h => by simp at h
  | c :: cs, w, j, q, 0, h, _ => by simpa using (show Ch w j c cs from h.2).first
  | c :: cs, w, j, q, k + 1, h, hk => by
    have := Ch.at (R := cs) (k := k) h.2 (by simpa using hk)
    simpa using this

/-- What the range reads: its two boxes, and the chain. -/
structure BehindAt (W : World) (B q j : Nat) (R : List Nat) : Prop where
  b0 : W.cell? ⟨B, 0, none⟩ = some (.pointer (some ⟨q, 0, none⟩))
  b1 : W.cell? ⟨B + 1, 0, none⟩ = some (.int .i64 j)
  ch : Ch W j q R

def towV (R : List Nat) (k : Nat) : Array Value := #[.pointer (some ⟨R.getD k 0, 0, none⟩)]

theorem behindAny (w : World) (q j : Nat) :
    Calls Try.prog 33 #[.pointer (some ⟨q, 0, none⟩), .int .i64 j] w fun e w' =>
      e = .returned (.func (.func 43) #[] #[.pointer (some ⟨w.heap.size, 0, none⟩), .pointer (some ⟨w.heap.size + 1, 0, none⟩)]) ∧ w' = (w.alloc (.cells #[.pointer (some ⟨q, 0, none⟩)] 61)).alloc (.cells #[.int .i64 j] 3) := by
  go_enter Try.func33, Try.ntmps33
  go_wp2
  go_ret
  exact ⟨rfl, rfl⟩

set_option maxRecDepth 100000 in
set_option maxHeartbeats 2000000 in
theorem behindSeq (n : Nat) {B q j : Nat} {R : List Nat} (hj : j < 8) (hR : R.Nodup) (I : Nat → World → Prop) (hI : ∀ k W, I k W → BehindAt W B q j R) :
    StopsOf Fence.wide n Try.prog 43 #[.pointer (some ⟨B, 0, none⟩), .pointer (some ⟨B + 1, 0, none⟩)] (towV R) R.length I := by
  intro l J Jx W hJI hJd hY h0
  have HJI := Lib.hid (fun k A h => hI k A (hJI k A h))
  have HJD := Lib.hid hJd
  have HY := Lib.hid hY
  have HN := Lib.hid hR
  have j0 : (0 : Int) ≤ (j : Int) := by omega
  have j8 : (j : Int) < 8 := by omega
  have hb := HJI.out 0 W h0
  have e0 := hb.b0
  have e1 := hb.b1
  have e2 := hb.ch.first
  have HJ0 := Lib.hid h0
  clear hb hI hJI hJd hY hR h0
  refine callsIn_of_wp Try.func43 rfl trivial ?_ rfl
  simp only [Try.ntmps43, List.size_toArray, List.length_cons, List.length_nil, Nat.reduceAdd, Nat.reduceSub, Array.replicate_succ, Array.replicate_zero, List.push_toArray, List.append_toArray, List.nil_append, List.cons_append]
  gi_wp2
  refine wpIn_wide.2 ?_
  go_quiet (fail)
  have HJ1 := Lib.hid (HJD.out 0 W nq HJ0.out)
  clear e0 e1 e2 HJ0
  generalize W.drewN nq = W1 at *
  gi_wp2
  gi_loopw [4] (fun p wr => ∃ k : Nat, k ≤ R.length ∧ p = nxv (R.drop k) ∧ J k wr) (fun p _ => rem R p)
  case atStart => exact ⟨0, Nat.zero_le _, by simp, HJ1.out⟩
  case round =>
    obtain ⟨k, hk, rfl, hJ⟩ := hrel
    clear HJ1
    by_cases hlt : k < R.length
    · have HM := Lib.hid (rem_at HN.out hk)
      have HM2 := Lib.hid (rem_at (k := k + 1) HN.out (by omega))
      have hd := drop_at hlt
      rw [hd, show nxv (R.getD k 0 :: R.drop (k + 1)) = .pointer (some ⟨R.getD k 0, 0, none⟩) from rfl] at HM ⊢
      obtain ⟨fn, tmps, assign, body, hy, hR⟩ := HY.out k wr hJ hlt
      have HRR := Lib.hid hR
      have HRat : Hid (∀ W', J (k + 1) W' → BehindAt W' B q j R ∧ W'.cell? ⟨R.getD k 0, 2 + j, none⟩ = some (nxv (R.drop (k + 1)))) := Lib.hid fun W' h => ⟨HJI.out _ W' h, (HJI.out _ W' h).ch.at hlt⟩
      clear hR hJ hd
      simp only [towV] at hy
      generalize R.getD k 0 = c at *
      obtain ⟨y, hy0⟩ : ∃ y, nxv (R.drop (k + 1)) = y := ⟨_, rfl⟩
      rw [hy0] at HRat HM2
      have HYe := Lib.hid hy0
      clear hy0
      gi_wp2
      refine ⟨(fun h => by simp [Fence.wide] at h), HRR.out.mono ?_⟩
      rintro e3 W3 (⟨rfl, hJ3⟩ | ⟨rfl, hJx3⟩)
      · obtain ⟨hb, e2⟩ := HRat.out W3 hJ3
        have e0 := hb.b0
        have e1 := hb.b1
        have HJ3 := Lib.hid hJ3
        clear hJ3 hb hy HRat
        gi_wp2
        refine wpIn_wide.2 ?_
        go_quiet (fail)
        have HJ4 := Lib.hid (HJD.out (k + 1) W3 nq HJ3.out)
        clear e0 e1 e2 HJ3
        generalize W3.drewN nq = W4 at *
        gi_wp2
        go_roundw
        case rel => exact ⟨k + 1, by omega, HYe.out.symm, HJ4.out⟩
        case measure =>
          have a1 := HM.out
          have a2 := HM2.out
          simp
          omega
      · gi_wp2
        refine bodyPost_ret (results_none rfl _ _ _) rfl ?_
        exact ⟨⟨_, rfl⟩, .inr ⟨k, hlt, hJx3⟩⟩
    · obtain rfl : k = R.length := by omega
      have HJ := Lib.hid hJ
      clear hJ
      rw [show nxv (R.drop R.length) = .pointer none by rw [List.drop_of_length_le (Nat.le_refl _)]; rfl]
      gi_wp2
      go_end0
      exact ⟨⟨_, rfl⟩, .inl HJ.out⟩

end Go.Proofs.Ytjcdbdhdmalfaaa
