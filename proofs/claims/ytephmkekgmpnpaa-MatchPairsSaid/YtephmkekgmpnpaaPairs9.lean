/-
  Those whom Pairs of package match tells what becomes of operations. Conditions: none.
-/
import Derived.Test.YtephmkekgmpnpaaThruB9
import Derived.Test.YtephmkekgmpnpaaRow9
namespace Go.Proofs.Ytephmkekgmpnpaa
open Go.RowKit

/-- What the rows hold ahead of operation k: how many pairs, and how many codes, are told. -/
def PI (most there : Int) (ks : Nat → Int) (n Bw Bc gw gc : Nat) (a b : Nat) (G : Nat → Prop) (W : World) : Prop :=
  (∀ g, g = Bw ∨ g = Bc ∨ g = gw ∨ g = gc → G g) ∧ (∀ g, G g → g < W.heap.size) ∧ SBx W Bw 34 gw n ∧ SBx W Bc 23 gc n ∧ Rw W gw .i64 3 (pairsK most there ks n a) ∧ Rw W gc .u8 5 (codesK most there ks n b)

section
variable {most there : Int} {ks : Nat → Int} {n Bw Bc gw gc a b : Nat} {G L : Nat → Prop} {W W' : World}
theorem PI.keep (h : PI most there ks n Bw Bc gw gc a b G W) (hw : Wrote L W W') (ha : Apart G L) : PI most there ks n Bw Bc gw gc a b G W' := by
  obtain ⟨h1, h2, h3, h4, h5, h6⟩ := h
  refine ⟨h1, fun g hg => Nat.lt_of_lt_of_le (h2 g hg) hw.size, h3.keep (hw.block _ h3.lt (ha _ (h1 _ (.inl rfl)))), h4.keep (hw.block _ h4.lt (ha _ (h1 _ (.inr (.inl rfl))))), h5.keep (hw.block _ h5.lt (ha _ (h1 _ (.inr (.inr (.inl rfl)))))), h6.keep (hw.block _ h6.lt (ha _ (h1 _ (.inr (.inr (.inr rfl))))))⟩

theorem pcode (h : PI most there ks n Bw Bc gw gc a b G W) {k : Nat} (hk : k < n) :
    Calls Try.prog 30 #[.int .i64 k, .pointer (some ⟨Bc, 0, none⟩)] W fun e w' => e = .returned (.pointer (some ⟨gc, k, none⟩)) ∧ W = w' := by
  have c := h.2.2.2.1.cell
  have i1 : (k : Int) < (n : Int) := by omega
  clear h
  go_enter Try.func30, Try.ntmps30
  go_wp2
  go_ret
  exact ⟨rfl, rfl⟩

theorem pmeet (h : PI most there ks n Bw Bc gw gc a b G W) {k : Nat} (hk : k < n) (ha : a ≤ n) (j : Int) :
    Calls Try.prog 31 #[.int .i64 k, .int .i64 j, .pointer (some ⟨Bw, 0, none⟩)] W fun e w' => e = .returned (.tuple #[]) ∧ w' = W.setCell ⟨gw, k, none⟩ (.int .i64 j) := by
  have c := h.2.2.1.cell
  have i1 : (k : Int) < (n : Int) := by omega
  have c2 := h.2.2.2.2.1.cell (i := k) (by rw [pairsK_length ha]; exact hk)
  have f2 := h.2.2.2.2.1.free k
  generalize (pairsK most there ks n a).getD k 0 = z at *
  clear h
  go_enter Try.func31, Try.ntmps31
  go_wp2
  go_end0
  exact ⟨rfl, rfl⟩

theorem ptake (k : Int) (W : World) : Calls Try.prog 32 #[.int .i64 k] W fun e w' => e = .returned (.tuple #[]) ∧ W = w' := by
  go_enter Try.func32, Try.ntmps32
  go_wp2
  go_end0
  exact ⟨rfl, rfl⟩
theorem pstay (k : Int) (W : World) : Calls Try.prog 33 #[.int .i64 k] W fun e w' => e = .returned (.tuple #[]) ∧ W = w' := by
  go_enter Try.func33, Try.ntmps33
  go_wp2
  go_end0
  exact ⟨rfl, rfl⟩

theorem pne (h : PI most there ks n Bw Bc gw gc a b G W) : Bw ≠ gw ∧ Bc ≠ gw ∧ Bw ≠ gc ∧ Bc ≠ gc := by
  obtain ⟨_, _, h3, h4, h5, h6⟩ := h
  unfold SBx at h3 h4
  unfold Rw at h5 h6
  refine ⟨?_, ?_, ?_, ?_⟩ <;> (rintro rfl; simp_all)

theorem pmet (h : PI most there ks n Bw Bc gw gc a b G W) (hg : gw ≠ gc) {k : Nat} (hk : k < n) (e : a = k) : PI most there ks n Bw Bc gw gc (a + 1) b G (W.setCell ⟨gw, k, none⟩ (.int .i64 (lineP (lineAt most there ks k) (ks k)))) := by
  subst e
  obtain ⟨n1, n2, n3, n4⟩ := pne h
  obtain ⟨h1, h2, h3, h4, h5, h6⟩ := h
  have hw : Wrote (fun g => g = gw) W (W.setCell ⟨gw, a, none⟩ (.int .i64 (lineP (lineAt most there ks a) (ks a)))) := (Wrote.refl (fun g => g = gw) W).setCell (q := ⟨gw, a, none⟩) (.inr rfl) _
  refine ⟨h1, fun g hg => Nat.lt_of_lt_of_le (h2 g hg) hw.size, h3.keep (hw.block _ h3.lt n1), h4.keep (hw.block _ h4.lt n2), ?_, h6.keep (hw.block _ h6.lt (fun e => hg e.symm))⟩
  have := h5.set a (lineP (lineAt most there ks a) (ks a))
  rwa [pairsK_put hk] at this

theorem pwritten (h : PI most there ks n Bw Bc gw gc a b G W) (hg : gw ≠ gc) {k : Nat} (hk : k < n) (e : b = k) : PI most there ks n Bw Bc gw gc a (b + 1) G (W.setCell ⟨gc, k, none⟩ (.int .u8 (lineC most (lineAt most there ks k) (ks k)))) := by
  subst e
  obtain ⟨n1, n2, n3, n4⟩ := pne h
  obtain ⟨h1, h2, h3, h4, h5, h6⟩ := h
  have hw : Wrote (fun g => g = gc) W (W.setCell ⟨gc, b, none⟩ (.int .u8 (lineC most (lineAt most there ks b) (ks b)))) := (Wrote.refl (fun g => g = gc) W).setCell (q := ⟨gc, b, none⟩) (.inr rfl) _
  refine ⟨h1, fun g hg => Nat.lt_of_lt_of_le (h2 g hg) hw.size, h3.keep (hw.block _ h3.lt n3), h4.keep (hw.block _ h4.lt n4), h5.keep (hw.block _ h5.lt hg), ?_⟩
  have := h6.set b (lineC most (lineAt most there ks b) (ks b))
  rwa [codesK_put hk] at this

theorem psame (h : PI most there ks n Bw Bc gw gc a b G W) (hk : a < n) (e : lineP (lineAt most there ks a) (ks a) = -1) : PI most there ks n Bw Bc gw gc (a + 1) b G W := by
  obtain ⟨h1, h2, h3, h4, h5, h6⟩ := h
  exact ⟨h1, h2, h3, h4, by rw [← pairsK_same hk e]; exact h5, h6⟩

theorem pairsHooks (B : Nat) (h0 : 0 ≤ there) (h1 : there ≤ most) (h2 : most ≤ 1000) (hg : gw ≠ gc) :
    Hooks B n most there ks 30 31 32 33 #[.pointer (some ⟨Bc, 0, none⟩)] #[.pointer (some ⟨Bw, 0, none⟩)] #[] #[] (fun k => ⟨gc, k, none⟩)
      (fun k G W => k ≤ n ∧ PI most there ks n Bw Bc gw gc k k G W) (fun k G W => k ≤ n ∧ PI most there ks n Bw Bc gw gc (k + 1) k G W) (fun _ G W => PI most there ks n Bw Bc gw gc n n G W) := by
  refine ⟨enters_of Try.func30 (by kernel_rfl) rfl, enters_of Try.func31 (by kernel_rfl) rfl, enters_of Try.func32 (by kernel_rfl) rfl, enters_of Try.func33 (by kernel_rfl) rfl, h0, h1, h2,
    fun k G W h => h.2.2.1, fun k G W h => h.2.2.1, fun k G W h => h.2.1, fun k G L W W' h hw ha _ => ⟨h.1, h.2.keep hw ha⟩, fun k G L W W' h hw ha _ => ⟨h.1, h.2.keep hw ha⟩, fun k G L W W' h hw ha _ => h.keep hw ha, ?_, ?_, ?_, ?_, ?_, ?_, ?_, ?_⟩
  · intro k G W h hk
    exact pcode h.2 hk
  · intro k G W j ys h hk hkd hs
    refine (pmeet h.2 hk h.1 j).mono ?_
    rintro e w' ⟨he, rfl⟩
    have hp : lineP (lineAt most there ks k) (ks k) = j := by simp [lineP, hkd, hs]
    have := pmet h.2 hg hk rfl
    rw [hp] at this
    exact ⟨he, G, ⟨h.1, this⟩, (Wrote.refl G W).setCell (.inr (h.2.1 _ (.inr (.inr (.inl rfl))))) _, Later.refl _ _⟩
  · intro k G W h hk hkd hs _
    refine (ptake k W).mono ?_
    rintro e w' ⟨he, rfl⟩
    exact ⟨he, G, ⟨h.1, psame h.2 hk (by simp [lineP, hs])⟩, Wrote.refl _ _, Later.refl _ _⟩
  · intro k G W h hk hno
    refine ⟨h.1, psame h.2 hk ?_⟩
    unfold lineP
    split
    · rename_i hkd
      simp [(hno hkd).1]
    · rfl
  · intro k G W h hk
    exact ⟨⟨_, h.2.2.2.2.2.2.cell (by rw [codesK_length h.1]; exact hk)⟩, h.2.2.2.2.2.2.free k, h.2.1 _ (.inr (.inr (.inr rfl)))⟩
  · intro k G W h hk
    exact ⟨hk, pwritten h.2 hg hk rfl⟩
  · intro G W h
    exact h.2
  · intro j G W x h _
    refine (pstay x W).mono ?_
    rintro e w' ⟨he, rfl⟩
    exact ⟨he, G, h, Wrote.refl _ _, Later.refl _ _⟩
end

end Go.Proofs.Ytephmkekgmpnpaa
