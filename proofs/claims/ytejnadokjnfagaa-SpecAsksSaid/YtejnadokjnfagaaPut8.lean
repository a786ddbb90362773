/-
  What an object's operation does in package spec: put and take, and the places first, last, behind and ahead of what is greater. Conditions: a list of at most a thousand numbers.
-/
import Derived.Test.YtejnadokjnfagaaInsert8B
namespace Go.Proofs.Ytejnadokjnfagaa
open Go.RowKit Go.Lib

theorem firstAny (w : World) (s v : Value) : Calls Try.prog 38 #[s, v] w fun e w' => e = .returned (.int .i64 0) ∧ w = w' := by
  go_enter Try.func38, Try.ntmps38
  go_wp2
  go_ret
  exact ⟨rfl, rfl⟩
theorem behindAny (w : World) (ao : Option Addr) (n cap : Nat) (v : Value) (_ : n ≤ 1000) : Calls Try.prog 35 #[.slice ao n cap, v] w fun e w' => e = .returned (.int .i64 n) ∧ w = w' := by
  go_enter Try.func35, Try.ntmps35
  go_wp2
  go_ret
  exact ⟨rfl, rfl⟩
theorem lastAny (w : World) (ao : Option Addr) (n cap : Nat) (v : Value) (hn : n ≤ 1000) : Calls Try.prog 37 #[.slice ao n cap, v] w fun e w' => e = .returned (.int .i64 ((n : Int) - 1)) ∧ w = w' := by
  go_enter Try.func37, Try.ntmps37
  go_wp2
  go_ret
  exact ⟨rfl, rfl⟩

/-- How many stand ahead of the first one that is greater. -/
def fgt (x : Int) : List Int → Nat
  | [] => 0
  | y :: l => if x < y then 0 else fgt x l + 1
theorem fgt_le (x : Int) : ∀ l, fgt x l ≤ l.length
  | [] => Nat.le_refl _
  | y :: l => by unfold fgt; split <;> simp; exact fgt_le x l
theorem fgt_is (x : Int) : ∀ (l : List Int) (k : Nat), k ≤ l.length → (∀ j, j < k → l.getD j 0 ≤ x) → (k = l.length ∨ x < l.getD k 0) → fgt x l = k
  | [], k, hk, _, _ => by simp at hk; subst hk; rfl
  | y :: l, k, hk, h1, h2 => by
    unfold fgt
    cases k with
    | zero =>
      rcases h2 with h | h
      · simp at h
      · rw [if_pos (by simpa using h)]
    | succ k =>
      rw [if_neg (by have := h1 0 (by omega); simp at this; omega)]
      rw [fgt_is x l k (by simpa using hk) (fun j hj => by simpa using h1 (j + 1) (by omega)) (by rcases h2 with h | h; exact .inl (by simpa using h); exact .inr (by simpa using h))]

/-- What IndexFunc tells of it. -/
def fgtZ (x : Int) (l : List Int) (n : Nat) : Int := if fgt x l < n then (fgt x l : Int) else -1

theorem gtrAny (w : World) (B : Nat) (x y : Int) (h : w.cell? ⟨B, 0, none⟩ = some (.int .i32 x)) : Calls Try.prog 46 #[.int .i32 y, .pointer (some ⟨B, 0, none⟩)] w fun e w' => e = .returned (.bool (decide (x < y))) ∧ w = w' := by
  go_enter Try.func46, Try.ntmps46
  go_wp2
  go_ret
  exact ⟨rfl, rfl⟩

set_option maxHeartbeats 1600000 in
theorem indexAny (w : World) (B : Nat) (x : Int) (h : w.cell? ⟨B, 0, none⟩ = some (.int .i32 x)) (ao : Option Addr) (n cap : Nat) (zs : List Int) (hr : Reads .i32 w ao n zs) (hn : n ≤ 1000) :
    Calls Try.prog 45 #[.slice ao n cap, .func (.func 46) #[] #[.pointer (some ⟨B, 0, none⟩)]] w fun e w' => e = .returned (.int .i64 (fgtZ x zs n)) ∧ w = w' := by
  have HR := Lib.hid hr
  have HL := Lib.hid hr.1
  clear hr
  go_enter Try.func45, Try.ntmps45
  go_wp2
  go_loopw [8] (fun i wr => ∃ k : Nat, k ≤ n ∧ i = .int .i64 k ∧ Hid (∀ j, j < k → zs.getD j 0 ≤ x) ∧ w = wr) (fun i _ => n - (intOf i).toNat)
  case atStart => exact ⟨0, Nat.zero_le _, rfl, Lib.hid (fun j hj => by omega), rfl⟩
  case round =>
    obtain ⟨k, hk, rfl, HA, hw⟩ := hrel
    subst hw
    by_cases hlt : k < n
    · obtain ⟨b, off, rfl, bl, hc⟩ := HR.out.2 (by omega)
      have c := hc k hlt
      have i1 : (k : Int) < n := by omega
      clear hc
      obtain ⟨y, hy⟩ : ∃ y, zs.getD k 0 = y := ⟨_, rfl⟩
      rw [hy] at c
      have HY := Lib.hid hy
      clear hy
      have G := gtrAny w B x y h
      by_cases hxy : x < y
      · have hd : decide (x < y) = true := by simpa using hxy
        rw [hd] at G
        have HE := Lib.hid (show fgtZ x zs n = k by unfold fgtZ; rw [fgt_is x zs k (by rw [HL.out]; omega) HA.out (.inr (by rw [HY.out]; exact hxy)), if_pos hlt])
        clear hd hxy
        go_wp2_with (go_at_call 46; refine G.mono ?_; rintro e w' ⟨rfl, rfl⟩)
        go_ret
        exact ⟨by rw [HE.out]; rfl, rfl⟩
      · have hd : decide (x < y) = false := by simpa using hxy
        rw [hd] at G
        have HN := Lib.hid (show ∀ j, j < k + 1 → zs.getD j 0 ≤ x from fun j hj => by
          rcases Nat.lt_or_ge j k with h2 | h2
          · exact HA.out j h2
          · obtain rfl : j = k := by omega
            rw [HY.out]; omega)
        clear hd hxy
        go_wp2_with (go_at_call 46; refine G.mono ?_; rintro e w' ⟨rfl, rfl⟩)
        go_roundw
        case rel => exact ⟨k + 1, by omega, by go_num, HN, by trivial⟩
        case measure => simp [intOf]; omega
    · obtain rfl : k = n := by omega
      have HE := Lib.hid (show fgtZ x zs k = -1 by unfold fgtZ; rw [fgt_is x zs k (by rw [HL.out]; exact Nat.le_refl _) HA.out (.inl HL.out.symm), if_neg (by omega)])
      clear hlt
      go_wp2
      go_ret
      exact ⟨by rw [HE.out]; rfl, rfl⟩

set_option maxHeartbeats 1600000 in
theorem aheadAny (w : World) (x : Int) (ao : Option Addr) (n cap : Nat) (zs : List Int) (hr : Reads .i32 w ao n zs) (hn : n ≤ 1000) :
    Calls Try.prog 39 #[.slice ao n cap, .int .i32 x] w fun e w' => e = .returned (.int .i64 (fgt x zs)) ∧ Below w.heap.size w w' := by
  have hb : Below w.heap.size w (w.alloc (.cells #[.int .i32 x] 21)) := (Below.refl _ _).alloc (Nat.le_refl _) _
  have C := indexAny (w.alloc (.cells #[.int .i32 x] 21)) w.heap.size x (by go_simp) ao n cap zs (hr.keep hb) hn
  have hl := hr.1
  have hf := fgt_le x zs
  rw [hl] at hf
  unfold fgtZ at C
  have HB := Lib.hid hb
  clear hb hr hl
  generalize fgt x zs = f at *
  by_cases h : f < n
  · rw [if_pos h] at C
    have h0 : ¬ (f : Int) < 0 := by omega
    go_enter Try.func39, Try.ntmps39
    go_wp2_with fail
    refine C.mono ?_
    rintro e w' ⟨rfl, rfl⟩
    go_wp2
    go_ret
    exact ⟨rfl, HB.out⟩
  · rw [if_neg h] at C
    obtain rfl : f = n := by omega
    have CB := fun W => behindAny W ao f cap (.int .i32 x) hn
    clear h hf
    go_enter Try.func39, Try.ntmps39
    go_wp2_with fail
    refine C.mono ?_
    rintro e w' ⟨rfl, rfl⟩
    go_wp2_with fail
    refine (CB _).mono ?_
    rintro e w' ⟨rfl, rfl⟩
    go_wp2
    go_ret
    exact ⟨rfl, HB.out⟩

end Go.Proofs.Ytejnadokjnfagaa
