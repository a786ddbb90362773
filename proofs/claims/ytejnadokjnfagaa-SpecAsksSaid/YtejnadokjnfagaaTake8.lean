/-
  What an object's operation does in package spec: put, take and without. Conditions: a list of at most a thousand numbers.
-/
import Derived.Test.YtejnadokjnfagaaPut8
namespace Go.Proofs.Ytejnadokjnfagaa
open Go.RowKit Go.Lib

/-- The block of a list. -/
def Own (v : Value) : Nat → Prop := fun g => v.ownBlock = some g
theorem Wrote.ofGrown {w w' : World} {v : Value} (h : w.grownBy w' v.ownBlock) : Wrote (Own v) w w' := ⟨h.os, h.tape, h.output, h.size, fun k hk hn => h.block k hk (fun e => hn e.symm)⟩

theorem step_append_known {P : Program} {ops : Array Oper} {o : Oper} {a : Act} {w : World} {K : Act → World → Prop} {Q : Exit → Act → World → Prop} {E : Prop}
    (hg : o.guard = none) (d x : Operand) (dT sT : TypeId) (hop : o.op = Op.call { callee := Callee.builtin Builtin.append, args := #[d, x], argTypes := #[dT, sT] })
    (v u : Value) (hd : a.eval d = v) (hx : a.eval x = u) {v' : Value} {w' : World} (hr : (Builtin.append_ #[dT, sT] o.type #[v, u]).run P w = .ok v' w') (hK : K (a.put o.dst v') w') :
    if Region.wanted o (yielded ops a.tmps) = true then Oper.wp P o a w K Q else E := by
  have hw : Region.wanted o (yielded ops a.tmps) = true := by simp [Region.wanted, hg]
  rw [if_pos hw]
  unfold Oper.wp
  simp [execOp, hop, resolve, invoke, builtin, hd, hx, hr, Result.andThen]
  exact hK

theorem run_append_zero {P : Program} (w : World) (t ty e : TypeId) (i : TypeInfo) (ht : P.underlying t = some (.slice e)) (hi : P.info? e = some i) (a b : Option Addr) (n cap c : Nat) (hn : n ≤ cap) :
    (Builtin.append_ #[t, t] ty #[.slice a n cap, .slice b 0 c]).run P w = .ok (.slice a n cap) w := by
  cases a <;> cases b <;> simp [Builtin.append_, run_underlying ht, sizeOf, typeInfo, hi, Builtin.lenOf, Builtin.firstCells, hn, storeCells, loadCells, loadCellsFrom]

theorem zero32 (w : World) : (zeroValue 21).run Try.prog w = .ok (.int .i32 0) w := by kernel_rfl

section
variable {w : World}
/-- What stands behind the last one's going. -/
theorem tail_less {xs : List Value} {y z : Value} {g off cap : Nat} (h : Tail w (.slice (some ⟨g, off, none⟩) (xs.length + 1) cap) (xs ++ [y])) :
    TailPost w (.slice (some ⟨g, off, none⟩) (xs.length + 1) cap) xs (.returned (.slice (some ⟨g, off, none⟩) xs.length cap)) (w.drew.setCells g (off + xs.length) [z]) := by
  rcases h with ⟨h', _⟩ | ⟨g', off', cap', h', hl, hc, hm, hx, hr⟩
  · simp at h'
  · simp only [Value.slice.injEq, Option.some.injEq, Addr.mk.injEq, and_true] at h'
    obtain ⟨⟨rfl, rfl⟩, _, rfl⟩ := h'
    simp only [List.length_append, List.length_cons, List.length_nil] at hc hx
    refine ⟨_, rfl, .inr ⟨g, off, cap, rfl, by rw [size_setCells]; exact hl, by omega, hm, fun j hj => ?_, fun j hj => ⟨isSome_setCells g _ _ _ _ (hr j hj).1, ?_⟩⟩, ?_, fun k hk => .inl hk⟩
    · rw [World.cell?_setCells_out g _ _ _ _ (fun _ _ => Or.inl (by show off + j < off + xs.length; omega))]
      have := hx j (by omega)
      rw [List.getElem?_append_left hj] at this
      exact this
    · rw [World.frozen?_setCells]; exact (hr j hj).2
    · have a := grownBy_setCells w.drew g (off + xs.length) [z]
      exact ⟨a.os, a.tape, a.output, a.size, fun k hk hne => a.block k hk hne⟩

set_option maxRecDepth 100000 in
set_option maxHeartbeats 8000000 in
theorem deleteLast (g off cap : Nat) (xs : List Value) (y : Value) (h : Tail w (.slice (some ⟨g, off, none⟩) (xs.length + 1) cap) (xs ++ [y])) (h0 : 0 < xs.length) (hn : xs.length ≤ 1000) :
    Calls Try.prog 51 #[.slice (some ⟨g, off, none⟩) (xs.length + 1) cap, .int .i64 xs.length, .int .i64 (xs.length + 1)] w (TailPost w (.slice (some ⟨g, off, none⟩) (xs.length + 1) cap) xs) := by
  obtain ⟨i0, hi0, hz0, hzs, hzb⟩ := info_parts infoI32
  have HEnd := Lib.hid (tail_less (z := .int .i32 0) h)
  have hcap : xs.length + 1 ≤ cap ∧ cap ≤ 9223372036854775807 ∧ (w.cell? ⟨g, off + xs.length, none⟩).isSome = true ∧ w.frozen? ⟨g, off + xs.length, none⟩ = false := by
    rcases h with ⟨h', _⟩ | ⟨g', off', cap', h', hl, hc, hm, hx, hr⟩
    · simp at h'
    · simp only [Value.slice.injEq, Option.some.injEq, Addr.mk.injEq, and_true] at h'
      obtain ⟨⟨rfl, rfl⟩, _, rfl⟩ := h'
      simp only [List.length_append, List.length_cons, List.length_nil] at hc
      have := hr xs.length (by omega)
      exact ⟨hc, by unfold maxLen at hm; omega, this.1, this.2⟩
  obtain ⟨hc1, hc2, hs1, hs2⟩ := hcap
  generalize xs.length = n at *
  have hap : ∀ ty A c, (Builtin.append_ #[22, 22] ty #[.slice (some ⟨g, off, none⟩) n cap, .slice A 0 c]).run Try.prog w.drew = .ok (.slice (some ⟨g, off, none⟩) n cap) w.drew := fun ty A c =>
    run_append_zero w.drew 22 ty 21 i0 Try.underlying22 hi0 _ A n cap c (by omega)
  have hcl : ∀ ty c, (Builtin.clear_ #[22] ty #[.slice (some ⟨g, off + n, none⟩) 1 c]).run Try.prog w.drew = .ok (.tuple #[]) (w.drew.setCells g (off + n) [.int .i32 0]) := fun ty c =>
    Lib.run_clear_slice w.drew 22 21 ty (.int .i32 0) Try.underlying22 zero32 rfl rfl g (off + n) 1 c (by omega) (fun j hj => by obtain rfl : j = 0 := (by omega); exact hs1) (fun j hj => by obtain rfl : j = 0 := (by omega); exact hs2)
  have e1 : ¬ ((n : Int) = (n : Int) + 1) := by omega
  have e2 : (n : Int) ≤ (n : Int) + 1 := by omega
  have e3 : ((n : Int) == (n : Int) + 1) = false := beq_eq_false_iff_ne.2 e1
  have e4 : (n : Int) + 1 ≤ cap := by omega
  have e5 : ((n : Int) + 1).toNat = n + 1 := by omega
  have e6 : ¬ cap = n := by omega
  have e7 : (n : Int) ≤ cap := by omega
  have e8 : 0 ≤ (n : Int) + 1 := by omega
  have e9 : n ≤ cap := by omega
  clear h hs1 hs2 hi0 hz0 hzs hzb
  by_cases hcn : cap = n + 1
  · subst hcn
    go_enter Try.func51, Try.ntmps51
    go_wp2_with (fail)
    go_region_law (refine step_append_known rfl _ _ 22 22 rfl _ _ (by simp [Act.eval, Act.put]) (by simp [Act.eval, Act.put]) (hap _ _ _) ?_)
    go_wp2_with (simp only [hcl])
    go_ret
    exact HEnd.out
  · have hcn2 : ¬ cap = n + 1 := hcn
    clear hcn
    go_enter Try.func51, Try.ntmps51
    go_wp2_with (fail)
    go_region_law (refine step_append_known rfl _ _ 22 22 rfl _ _ (by simp [Act.eval, Act.put]) (by simp [Act.eval, Act.put]) (hap _ _ _) ?_)
    go_wp2_with (simp only [hcl])
    go_ret
    exact HEnd.out
end

/-- What an operation leaves: the list's new value, what it is told. -/
def DidTail (w : World) (v : Value) (zs : List Int) (c x : Int) (e : Ending) (w' : World) : Prop :=
  ∃ v', e = .returned (.tuple #[v', .agg #[.int .u8 c, .int .i32 x]]) ∧ Tail w' v' (zs.map (Value.int .i32)) ∧ Wrote (Own v) w w' ∧ Later (Own v) (Own v') w

section
variable {w : World}
theorem withoutFirst (v : Value) (y : Int) (zs : List Int) (h : Tail w v ((y :: zs).map (Value.int .i32))) (hn : zs.length ≤ 1000) :
    Calls Try.prog 44 #[v, .int .i64 0] w fun e w' => w = w' ∧ ∃ v', e = .returned v' ∧ Tail w v' (zs.map (Value.int .i32)) ∧ v'.ownBlock = v.ownBlock := by
  obtain ⟨g, off, cap, rfl, hc, _⟩ := h.first
  have HT := Lib.hid (Tail.rest h)
  clear h
  rw [List.length_map] at hc HT ⊢
  generalize zs.length = n at *
  by_cases h1 : cap = 1
  · subst h1
    obtain rfl : n = 0 := by omega
    go_enter Try.func44, Try.ntmps44
    go_wp2
    go_ret
    exact ⟨rfl, _, rfl, by simpa using HT.out, rfl⟩
  · have h2 : (1 : Int) ≤ cap := by omega
    have h3 : (1 : Int) ≤ (n : Int) + 1 := by omega
    go_enter Try.func44, Try.ntmps44
    go_wp2
    go_ret
    exact ⟨rfl, _, rfl, by have := HT.out; rw [if_neg h1] at this; simpa using this, rfl⟩

theorem withoutLast (v : Value) (y : Int) (zs : List Int) (h : Tail w v ((zs ++ [y]).map (Value.int .i32))) (h0 : 0 < zs.length) (hn : zs.length ≤ 1000) (z : Int) (hz : z = zs.length) :
    Calls Try.prog 44 #[v, .int .i64 z] w (TailPost w v (zs.map (Value.int .i32))) := by
  subst hz
  rw [List.map_append, List.map_cons, List.map_nil] at h
  rcases h with ⟨_, h'⟩ | ⟨g, off, cap, rfl, r⟩
  · simp at h'
  · have hT : Tail w (.slice (some ⟨g, off, none⟩) ((zs.map (Value.int .i32)).length + 1) cap) (zs.map (Value.int .i32) ++ [.int .i32 y]) := .inr ⟨g, off, cap, by simp, r⟩
    have C := deleteLast g off cap _ _ hT (by simpa using h0) (by simpa using hn)
    rw [List.length_map] at C
    rw [show (zs.map (Value.int .i32) ++ [Value.int .i32 y]).length = zs.length + 1 by simp]
    have d1 : ((zs.length : Int) == 0) = false := beq_eq_false_iff_ne.2 (by omega)
    have HC := Lib.hid C
    clear C r hT
    generalize zs.length = n at *
    go_enter Try.func44, Try.ntmps44
    go_wp2_with (fail)
    refine HC.out.mono ?_
    rintro e w' hp
    obtain ⟨v', rfl, t⟩ := hp
    have HP := Lib.hid (show TailPost w (.slice (some ⟨g, off, none⟩) (n + 1) cap) (zs.map (Value.int .i32)) (.returned v') w' from ⟨v', rfl, t⟩)
    clear t
    go_wp2
    go_ret
    exact HP.out
end

end Go.Proofs.Ytejnadokjnfagaa
