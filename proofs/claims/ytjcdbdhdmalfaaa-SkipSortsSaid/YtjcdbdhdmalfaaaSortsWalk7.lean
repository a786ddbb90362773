/-
  The walk of SkipSorts: for all lists it answers true and leaves all old memory as it was.
-/
import Derived.Test.YtjcdbdhdmalfaaaArgs7
namespace Go.Proofs.Ytjcdbdhdmalfaaa
open Go.RowKit

theorem insIt_mem {t i : It} {l : List It} (h : i ∈ insIt t l) : i = t ∨ i ∈ l := by
  unfold insIt at h
  rcases List.mem_append.1 h with h | h
  · exact .inr ((List.takeWhile_sublist _).subset h)
  · rcases List.mem_cons.1 h with h | h
    · exact .inl h
    · exact .inr ((List.dropWhile_sublist _).subset h)

/-- A list of so many items, each with one of these values. -/
def SRel (w : World) (p : Nat) (zs : List Int) (k : Nat) (wr : World) : Prop :=
  ∃ F l, At w F p 1000 l wr ∧ l.length = k ∧ ∀ i ∈ l, ∃ m, m < zs.length ∧ zs.getD m 0 = i.v

/-- .. and none of them less than a number. -/
def TRel (w : World) (p : Nat) (zs : List Int) (k : Nat) (last : Int) (wr : World) : Prop :=
  ∃ F l, At w F p 1000 l wr ∧ l.length = k ∧ (∀ i ∈ l, ∃ m, m < zs.length ∧ zs.getD m 0 = i.v) ∧ ∀ i ∈ l, last ≤ i.v

/-- A list whose first one is known. -/
def TOne (w : World) (p : Nat) (zs : List Int) (k : Nat) (y : Int) (wr : World) : Prop := TRel w p zs k y wr

/-- How many of the first k are y: one, if there is one. -/
def Found (zs : List Int) (y : Int) (k c : Nat) : Prop := c ≤ k ∧ ∀ m, m < k → zs.getD m 0 = y → 0 < c

set_option maxRecDepth 100000 in
set_option maxHeartbeats 8000000 in
theorem sortsWalk {w : World} (ao : Option Addr) (n cap : Nat) (zs : List Int) (bo : Option Addr) (m capb : Nat) (hs : List Int) (ha : ArgInt32s w ao n cap zs) (hl : n ≤ 140737488351232) (hb : ArgBytes w bo m capb hs) (hlb : m ≤ 140737488351232) :
    Calls Try.prog 4 #[.slice ao n cap, .slice bo m capb] w fun e w' => e = .returned (.bool true) ∧ Below w.heap.size w w' := by
  obtain ⟨ha, _, _, hz⟩ := ha
  obtain ⟨hb, _, _, hbz⟩ := hb
  have HZ := Lib.hid ha
  have HH := Lib.hid hb
  have HL := Lib.hid ha.1
  have HZr := Lib.hid hz
  have HHr := Lib.hid hbz
  have HHl := Lib.hid hb.1
  clear ha hb hz hbz
  by_cases hbig : 100 < n
  · go_enter Try.func4, Try.ntmps4
    go_wp2_with fail
    refine (newAny 1000 w).mono ?_
    rintro e w1 ⟨rfl, s1, bl1⟩
    have HB := Lib.hid bl1
    clear s1 bl1
    go_wp2_with fail
    refine (known w1).mono ?_
    rintro e w2 ⟨rfl, bl2⟩
    have HQ := Lib.hid (HB.out.trans (bl2.mono HB.out.size))
    clear bl2
    go_wp2
    go_ret
    exact ⟨rfl, HQ.out⟩
  · have hn : n ≤ 100 := by omega
    clear hbig
    go_enter Try.func4, Try.ntmps4
    go_wp2_with fail
    refine (newAny 1000 w).mono ?_
    rintro e w1 ⟨rfl, s1, bl1⟩
    rw [mostOf_self 1000 (by decide) (by decide)] at s1
    have HA := Lib.hid (At.new s1 bl1)
    clear s1 bl1
    go_wp2
    go_loopw [6] (fun i wr => ∃ j : Nat, j ≤ n ∧ i = .int .i64 j ∧ SRel w w.heap.size zs j wr) (fun i _ => n - (intOf i).toNat)
    case atStart => exact ⟨0, Nat.zero_le _, rfl, ⟨_, [], HA.out, rfl, by simp⟩⟩
    case round =>
      obtain ⟨j, hj, rfl, F, l, a1, hlen, hmem⟩ := hrel
      clear HA
      have HA1 := Lib.hid a1
      have HMem := Lib.hid (And.intro hlen hmem)
      clear a1 hlen hmem
      by_cases hlt : j < n
      · obtain ⟨b, off, rfl, hbl, hc⟩ := HZ.out.2 (by omega)
        have cz := (HA1.out.2.1.cell (p := ⟨b, off + j, none⟩) hbl).trans (hc j hlt)
        have j0 : (0 : Int) ≤ (j : Int) := by omega
        have HJ := Lib.hid (show j < zs.length by rw [HL.out]; exact hlt)
        have HNx : Hid (∀ hv : Int, ∀ w2, Did F w.heap.size 1000 (insIt ⟨zs.getD j 0, hOf hv⟩ l) _ w2 → SRel w w.heap.size zs (j + 1) w2) := Lib.hid fun hv w2 d => by
          obtain ⟨F2, a2, _, _⟩ := HA1.out.next d
          refine ⟨F2, _, a2, by rw [insIt_length, HMem.out.1], fun i hi => ?_⟩
          rcases insIt_mem hi with rfl | hi
          · exact ⟨j, HJ.out, rfl⟩
          · exact HMem.out.2 i hi
        have C : ∀ hv : Int, _ := fun hv => insertOk HA1.out.1 (by rw [HMem.out.1]; omega) (zs.getD j 0) hv
        clear hc
        by_cases hjm : j < m
        · obtain ⟨b2, off2, rfl, hbl2, hc2⟩ := HH.out.2 (by omega)
          have ch := (HA1.out.2.1.cell (p := ⟨b2, off2 + j, none⟩) hbl2).trans (hc2 j hjm)
          have hr := HHr.out (hs.getD j 0) (by simp [List.getD, show j < hs.length by rw [HHl.out]; exact hjm])
          obtain ⟨r0, r1⟩ := hr
          clear hc2
          generalize zs.getD j 0 = y at *
          generalize hs.getD j 0 = q at *
          go_wp2_with fail
          refine (C _).mono ?_
          clear C
          rintro e w2 ⟨rfl, d2⟩
          have HN := Lib.hid (HNx.out _ _ d2)
          clear d2 HNx
          go_wp2
          go_roundw
          case rel => exact ⟨j + 1, by omega, by go_num, HN.out⟩
          case measure => simp [intOf]; omega
        · generalize zs.getD j 0 = y at *
          have hjm2 : ¬ (j : Int) < m := by omega
          go_wp2_with fail
          refine (C _).mono ?_
          clear C
          rintro e w2 ⟨rfl, d2⟩
          have HN := Lib.hid (HNx.out _ _ d2)
          clear d2 HNx
          go_wp2
          go_roundw
          case rel => exact ⟨j + 1, by omega, by go_num, HN.out⟩
          case measure => simp [intOf]; omega
      · obtain rfl : n = j := by omega
        go_wp2
        go_loopw [8, 9] (fun lst i wr => ∃ (k : Nat) (y : Int), k ≤ n ∧ i = .int .i64 k ∧ lst = .int .i32 y ∧ TRel w w.heap.size zs (n - k) y wr) (fun _ i _ => n - (intOf i).toNat)
        case atStart => exact ⟨0, -2147483648, Nat.zero_le _, rfl, rfl, ⟨F, l, HA1.out, by rw [HMem.out.1]; omega, HMem.out.2, fun i hi => by
          obtain ⟨q, hq, e⟩ := HMem.out.2 i hi
          have := HZr.out (zs.getD q 0) (by simp [List.getD, hq])
          omega⟩⟩
        case round =>
          obtain ⟨k, last, hk, rfl, rfl, F3, l3, a3, hlen, hmem, hlast⟩ := hrel
          clear HA1 HMem
          have HA3 := Lib.hid a3
          by_cases hlt2 : k < n
          · cases l3 with
            | nil => simp at hlen; omega
            | cons i rest =>
              have C := minOk i HA3.out.1
              have hso := HA3.out.1.so
              simp only [Rise, List.map_cons, List.pairwise_cons] at hso
              have HR : Hid (∀ w2, Did F3 w.heap.size 1000 rest _ w2 → TRel w w.heap.size zs (n - (k + 1)) i.v w2) := Lib.hid fun w2 d => by
                obtain ⟨F4, a4, _, _⟩ := HA3.out.next d
                exact ⟨F4, rest, a4, by simp at hlen; omega, fun x hx => hmem x (List.mem_cons_of_mem _ hx), fun x hx => hso.1 x.v (List.mem_map_of_mem hx)⟩
              have hle : ¬ i.v < last := by have := hlast i (by simp); omega
              obtain ⟨mm, hmm, hme⟩ := hmem i (by simp)
              have HM := Lib.hid (And.intro hmm hme)
              clear a3 hlen hmem hlast hso hmm hme
              generalize i.v = y at *
              go_wp2_with fail
              refine C.mono ?_
              clear C
              rintro e w2 ⟨rfl, d2⟩
              have HT := Lib.hid (HR.out _ d2)
              have HB2 : Hid (Below w.heap.size w w2) := by
                obtain ⟨F4, a4, _, _⟩ := HA3.out.next d2
                exact Lib.hid a4.2.1
              clear d2 HR
              go_wp2
              go_loopw [12, 13] (fun c i wr => ∃ (q cc : Nat), q ≤ n ∧ i = .int .i64 q ∧ c = .int .i64 cc ∧ Found zs y q cc ∧ wr = w2) (fun _ i _ => n - (intOf i).toNat)
              case atStart => exact ⟨0, 0, Nat.zero_le _, rfl, rfl, ⟨Nat.le_refl _, fun m h => by omega⟩, rfl⟩
              case round =>
                obtain ⟨q, cc, hq, rfl, rfl, hf, rfl⟩ := hrel
                by_cases hqn : q < n
                · obtain ⟨b, off, rfl, hbl, hc⟩ := HZ.out.2 (by omega)
                  have cz := (HB2.out.cell (p := ⟨b, off + q, none⟩) hbl).trans (hc q hqn)
                  have q0 : (0 : Int) ≤ (q : Int) := by omega
                  have c1 : (cc : Int) ≤ 100 := by have := hf.1; omega
                  by_cases he : zs.getD q 0 = y
                  · have HF := Lib.hid (show Found zs y (q + 1) (cc + 1) from ⟨by have := hf.1; omega, fun m _ _ => by omega⟩)
                    rw [he] at cz
                    clear hf hc he
                    go_wp2
                    go_roundw
                    case rel => exact ⟨q + 1, cc + 1, by omega, by go_num, by go_num, HF.out, trivial⟩
                    case measure => simp [intOf]; omega
                  · have HF := Lib.hid (show Found zs y (q + 1) cc from ⟨by have := hf.1; omega, fun m hm hy => by
                      by_cases e : m = q
                      · subst e; exact absurd hy he
                      · exact hf.2 m (by omega) hy⟩)
                    have hd := beq_eq_false_iff_ne.2 he
                    clear hf hc
                    generalize zs.getD q 0 = yq at *
                    go_wp2
                    go_roundw
                    case rel => exact ⟨q + 1, cc, by omega, by go_num, rfl, HF.out, trivial⟩
                    case measure => simp [intOf]; omega
                · obtain rfl : n = q := by omega
                  have hcp : 0 < cc := hf.2 mm (by rw [← HL.out]; exact HM.out.1) HM.out.2
                  have hc0 : ((cc : Int) == 0) = false := by simp; omega
                  clear hf
                  go_wp2
                  go_roundw
                  case rel => exact ⟨k + 1, y, by omega, by go_num, rfl, HT.out⟩
                  case measure => simp [intOf]; omega
          · obtain rfl : n = k := by omega
            have hnil : l3 = [] := List.eq_nil_of_length_eq_zero (by omega)
            subst hnil
            have C := minNone HA3.out.1
            clear a3 hlen hmem hlast
            go_wp2_with fail
            refine C.mono ?_
            clear C
            rintro e w2 ⟨rfl, rfl⟩
            go_wp2_with fail
            refine (known _).mono ?_
            rintro e w4 ⟨rfl, bl4⟩
            have HQ := Lib.hid (HA3.out.2.1.trans (bl4.mono HA3.out.2.1.size))
            clear bl4
            go_wp2
            go_ret
            exact ⟨rfl, HQ.out⟩

end Go.Proofs.Ytjcdbdhdmalfaaa
