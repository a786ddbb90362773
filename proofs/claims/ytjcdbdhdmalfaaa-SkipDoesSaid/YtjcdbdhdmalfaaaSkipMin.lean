/-
  What Min of package skip does: the first item goes off all levels that it is on. Conditions: a list as Skip says.
-/
import Derived.Test.YtjcdbdhdmalfaaaSkip
namespace Go.Proofs.Ytjcdbdhdmalfaaa
open Go.RowKit

/-- What holds between two levels that the first tower is taken off. -/
structure MinRel (w : World) (p : Nat) (many most : Int) (n : Nd) (ns : List Nd) (k : Nat) (W : World) : Prop where
  hd : Hd W p many most
  tow : ∀ m ∈ n :: ns, Tow W m
  ch : ∀ j, j < 8 → Ch W j p (if j < k then lv ns j else lv (n :: ns) j)
  wr : Wrote (InF p (n :: ns)) w W

section
variable {w W : World} {p : Nat} {many most : Int} {n : Nd} {ns : List Nd} {k : Nat}
theorem MinRel.drew (h : MinRel w p many most n ns k W) : MinRel w p many most n ns k W.drew :=
  ⟨h.hd.keep rfl, fun m hm => (h.tow m hm).keep rfl, fun j hj => (h.ch j hj).keep fun _ _ => rfl, h.wr.drew⟩
theorem MinRel.loads (h : MinRel w p many most n ns k W) (hk : k < 8) (hkn : k < n.h) : W.cell? ⟨p, 2 + k, none⟩ = some (.pointer (some ⟨n.b, 0, none⟩)) ∧ W.cell? ⟨n.b, 2 + k, none⟩ = some (nxv (lv ns k)) := by
  have := h.ch k hk
  rw [if_neg (Nat.lt_irrefl k), lv_in ns hkn] at this
  exact ⟨this.1, (show Ch W k n.b (lv ns k) from this.2).first⟩
theorem MinRel.round (h : MinRel w p many most n ns k W) (hk : k < 8) (hkn : k < n.h) (hnd : (p :: blks (n :: ns)).Nodup) : MinRel w p many most n ns (k + 1) (W.setCell ⟨p, 2 + k, none⟩ (nxv (lv ns k))) := by
  refine ⟨h.hd.set _ k hk _, fun m hm => (h.tow m hm).set _ k _, fun j hj => ?_, h.wr.setCell (.inr (by simp [InF])) _⟩
  have hj0 := h.ch j hj
  by_cases e : j = k
  · subst e
    rw [if_neg (Nat.lt_irrefl j), lv_in ns hkn] at hj0
    rw [if_pos (by omega)]
    have hl := Nodup.level hnd j
    rw [lv_in ns hkn] at hl
    exact hj0.drop hl
  · have hc : (if j < k + 1 then lv ns j else lv (n :: ns) j) = (if j < k then lv ns j else lv (n :: ns) j) := by
      by_cases h1 : j < k
      · rw [if_pos h1, if_pos (by omega)]
      · rw [if_neg h1, if_neg (by omega)]
    rw [hc]
    exact hj0.off (by omega) _
end

/-- A list without its first one. -/
theorem minDid {w W : World} {F : Nat → Prop} {p : Nat} {most : Int} {n : Nd} {ns : List Nd} (m : Skp w p most (n :: ns)) (hF : ∀ g, InF p (n :: ns) g → F g) (h4 : ∀ g, F g → g < w.heap.size)
    (h : MinRel w p ((n :: ns).length : Nat) most n ns n.h W) : Did F p most (itsOf ns) w (W.setCell ⟨p, 10, none⟩ (.int .i64 (ns.length : Int))) := by
  have hnd := m.bod.nd
  have hsub : ∀ g, InF p ns g → InF p (n :: ns) g := fun g hg => by
    simp only [InF, blks, List.map_cons, List.mem_cons] at hg ⊢
    rcases hg with hg | hg
    · exact .inl hg
    · exact .inr (.inr hg)
  have hb : Bod W p ((n :: ns).length : Nat) most ns := by
    refine ⟨h.hd, fun m hm => h.tow m (List.mem_cons_of_mem _ hm), fun j hj => ?_, ?_, fun k hk => m.bod.hs k (List.mem_cons_of_mem _ hk)⟩
    · have := h.ch j hj
      by_cases e : j < n.h
      · rwa [if_pos e] at this
      · rwa [if_neg e, lv_out ns e] at this
    · simp only [blks, List.map_cons, List.nodup_cons, List.mem_cons, not_or] at hnd ⊢
      exact ⟨hnd.1.2, hnd.2.2⟩
  have hso := m.so
  have hlen := m.len
  refine ⟨F, ⟨ns, ⟨hb.count _, ?_, ?_, m.mo⟩, rfl, fun g hg => hF g (hsub g hg), fun g hg => ?_⟩, ?_, Later.refl _ _⟩
  · unfold Rise at *; simp only [List.map_cons, List.pairwise_cons] at hso; exact hso.2
  · simp at hlen; omega
  · have := h4 g hg; have := h.wr.size; simp [World.setCell]; omega
  · have h1 : Wrote F w W := ⟨h.wr.os, h.wr.tape, h.wr.output, h.wr.size, fun k hk hF' => h.wr.block k hk fun e => hF' (hF k e)⟩
    exact h1.setCell (.inr (hF p (by simp [InF]))) _

section
variable {w : World} {F : Nat → Prop} {p : Nat} {most : Int} {l : List It}

theorem minNil (w : World) :
    Calls Try.prog 16 #[.pointer none] w fun e w' => e = .returned (.tuple #[.int .i32 0, .bool false]) ∧ w = w' := by
  go_enter Try.func16, Try.ntmps16
  go_wp2_with (go_at_call 20; refine (lenNil _).mono ?_; rintro e w' ⟨rfl, rfl⟩)
  go_ret2
  exact ⟨rfl, rfl⟩

theorem minNone (h : Skip w F p most []) :
    Calls Try.prog 16 #[.pointer (some ⟨p, 0, none⟩)] w fun e w' => e = .returned (.tuple #[.int .i32 0, .bool false]) ∧ w = w' := by
  have L := lenAny h
  clear h
  go_enter Try.func16, Try.ntmps16
  go_wp2_with (go_at_call 20; refine L.mono ?_; rintro e w' ⟨rfl, rfl⟩)
  go_ret2
  exact ⟨rfl, rfl⟩

set_option maxRecDepth 100000 in
set_option maxHeartbeats 4000000 in
theorem minOk (i : It) (h : Skip w F p most (i :: l)) :
    Calls Try.prog 16 #[.pointer (some ⟨p, 0, none⟩)] w fun e w' => e = .returned (.tuple #[.int .i32 i.v, .bool true]) ∧ Did F p most l w w' := by
  have L := lenAny h
  obtain ⟨ns0, m, hi, h3, h4⟩ := h
  cases ns0 with
  | nil => simp [itsOf] at hi
  | cons n ns =>
  simp only [itsOf, List.map_cons, List.cons.injEq] at hi
  obtain ⟨rfl, hl⟩ := hi
  have hl2 : itsOf ns = l := hl
  subst hl2
  clear hl
  have hlen : (({ v := n.v, h := n.h } : It) :: itsOf ns).length = ns.length + 1 := by simp [itsOf]
  rw [hlen] at L
  have hle := m.len
  have hmo := m.mo
  have hhs := m.bod.hs n (by simp)
  simp only [List.length_cons] at hle
  have hm0 : MinRel w p ((n :: ns).length : Nat) most n ns 0 w := ⟨m.bod.hd, m.bod.tow, fun j hj => by simpa using m.bod.ch j hj, Wrote.refl _ _⟩
  have HQ : Hid (∀ W, MinRel w p ((n :: ns).length : Nat) most n ns n.h W → Did F p most (itsOf ns) w (W.setCell ⟨p, 10, none⟩ (.int .i64 (ns.length : Int)))) := Lib.hid fun W hW => minDid m h3 h4 hW
  have HN := Lib.hid m.bod.nd
  have c2 := (hm0.loads (by omega) hhs.1).1
  have cv := (hm0.tow n (by simp)).c0
  have c1 := (hm0.tow n (by simp)).c1
  have HM := Lib.hid hm0
  have HH := Lib.hid hhs
  have hz : ((ns.length : Int) + 1 == 0) = false := by simp; omega
  clear m h3 h4 hm0 hlen hhs
  go_enter Try.func16, Try.ntmps16
  go_wp2_with (go_at_call 20; refine L.mono ?_; rintro e w' ⟨rfl, rfl⟩)
  clear c2 cv c1 L
  go_loopw [19] (fun i wr => ∃ k : Nat, k ≤ n.h ∧ i = .int .i64 k ∧ MinRel w p ((n :: ns).length : Nat) most n ns k wr) (fun i _ => n.h - (intOf i).toNat)
  case atStart => exact ⟨0, Nat.zero_le _, rfl, HM.out⟩
  case round =>
    obtain ⟨k, hk, rfl, hr⟩ := hrel
    clear HM
    by_cases hlt : k < n.h
    · have k8 : k < 8 := by have := HH.out; omega
      have i0 : (0 : Int) ≤ (k : Int) := by omega
      have i8 : (k : Int) < 8 := by omega
      obtain ⟨ca, cb⟩ := hr.loads k8 hlt
      have fp := hr.hd.f (2 + k)
      have HR := Lib.hid (hr.drew.round k8 hlt HN.out)
      clear hr
      obtain ⟨y, hy⟩ := nxv_ptr (lv ns k)
      rw [hy] at HR cb
      clear hy
      generalize hnb : n.b = tb at *
      go_wp2
      go_still_tail 12, (by kernel_rfl)
      have ca1 : wr.drew.cell? ⟨p, 2 + k, none⟩ = some (.pointer (some ⟨tb, 0, none⟩)) := ca
      have fp1 : wr.drew.frozen? ⟨p, 2 + k, none⟩ = false := fp
      change wpList _ _ _ _ _ wr.drew
      clear ca cb fp
      generalize wr.drew = W2 at *
      go_wp2
      go_roundw
      case rel => exact ⟨k + 1, by omega, by go_num, HR.out⟩
      case measure => simp [intOf]; omega
    · obtain rfl : k = n.h := by omega
      have c10 := hr.hd.c10
      have f10 := hr.hd.f 10
      rw [show (((n :: ns).length : Nat) : Int) = (ns.length : Int) + 1 by simp] at c10
      have cv := (hr.tow n (by simp)).c0
      have HR := Lib.hid (HQ.out wr hr)
      have hne : p ≠ n.b := fun e => by
        have := HN.out
        simp only [blks, List.map_cons, List.nodup_cons, List.mem_cons, not_or] at this
        exact this.1.1 e
      have cv2 : (wr.setCell ⟨p, 10, none⟩ (.int .i64 (ns.length : Int))).cell? ⟨n.b, 0, none⟩ = some (.int .i32 n.v) := (World.cell?_of_block (Below.heap_setCell _ _ _ _ (Ne.symm hne))).trans cv
      clear hr HQ hne
      generalize ns.length = m at *
      go_wp2
      go_ret2
      exact ⟨rfl, HR.out⟩

/-- The first one, whether there is one or not. -/
theorem minAny (h : Skip w F p most l) :
    Calls Try.prog 16 #[.pointer (some ⟨p, 0, none⟩)] w fun e w' => e = .returned (.tuple #[.int .i32 (l.head?.map It.v |>.getD 0), .bool l.head?.isSome]) ∧ Did F p most l.tail w w' := by
  cases l with
  | nil => exact (minNone h).mono fun e w' ⟨he, hw⟩ => ⟨he, by subst hw; exact h.did (Below.refl _ _)⟩
  | cons i l => exact minOk i h
end

end Go.Proofs.Ytjcdbdhdmalfaaa
