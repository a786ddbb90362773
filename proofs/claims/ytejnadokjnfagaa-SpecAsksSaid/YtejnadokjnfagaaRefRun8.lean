/-
  What reaperref08.Run tells: as runZ and runT say. Conditions: at most a thousand items and a thousand operations.
-/
import Derived.Test.YtejnadokjnfagaaRefApp8
import Derived.Test.YtejnadokjnfagaaOpsC8
namespace Go.Proofs.Ytejnadokjnfagaa
open Go.RowKit Go.Lib

/-- A list, none of whose cells lies in a block. -/
def Aside (a : Option Addr) (n : Nat) (g : Option Nat) : Prop := 0 < n → ∀ x, a = some x → g ≠ some x.block

theorem reads_lt {w : World} {a : Option Addr} {n : Nat} {zs : List Int} (h : Reads .i32 w a n zs) (hp : 0 < n) : ∀ x, a = some x → x.block < w.heap.size := by
  intro x e
  obtain ⟨b, off, e', bl, _⟩ := h.2 hp
  rw [e'] at e
  injection e with e
  subst e
  exact bl
theorem reads_grown {w w' : World} {a : Option Addr} {n : Nat} {zs : List Int} {g : Option Nat} (h : Reads .i32 w a n zs) (hn : Aside a n g) (hw : w.grownBy w' g) : Reads .i32 w' a n zs := by
  rcases Nat.eq_zero_or_pos n with h0 | h0
  · subst h0; exact ⟨h.1, fun h => by omega⟩
  · exact h.off (F := fun k => g = some k) (fun x e he => hn h0 x e he) ⟨hw.os, hw.tape, hw.output, hw.size, fun k hk hne => hw.block k hk (fun e => hne e.symm)⟩

/-- What holds at each round's head of Run. -/
structure RefRunAt (w : World) (obj m : Int) (zs : List Int) (os : List (Int × Int)) (k : Nat) (s t : Value) (wr : World) : Prop where
  r : ∃ a c, s = .slice a (runZ obj m zs (os.take k)).length c ∧ Reads .i32 wr a (runZ obj m zs (os.take k)).length (runZ obj m zs (os.take k)) ∧ (runZ obj m zs (os.take k)).length ≤ c ∧ Aside a (runZ obj m zs (os.take k)).length t.ownBlock
  o : wr.ownsRow w.heap.size 32 2 t k (flatO (runT obj m zs (os.take k)))
  b : Below w.heap.size w wr

/-- What Run of the document leaves. -/
def RefRunPost (w : World) (obj m : Int) (zs : List Int) (os : List (Int × Int)) (e : Ending) (w' : World) : Prop :=
  ∃ a c a2 c2, e = .returned (.tuple #[.slice a (runZ obj m zs os).length c, .slice a2 os.length c2]) ∧ Reads .i32 w' a (runZ obj m zs os).length (runZ obj m zs os) ∧ OpsAt w' a2 os.length (runT obj m zs os) ∧ Below w.heap.size w w'

theorem RefRunAt.done {w wr : World} {obj m : Int} {zs : List Int} {os : List (Int × Int)} {n : Nat} {s t : Value} (h : RefRunAt w obj m zs os n s t wr) (hn : os.length = n) : RefRunPost w obj m zs os (.returned (.tuple #[s, t])) wr := by
  obtain ⟨⟨a, c, rfl, h1, _, _⟩, h2, h3⟩ := h
  subst hn
  rw [List.take_length] at h1 h2 ⊢
  obtain ⟨a2, c2, rfl, h4⟩ := resAt_own h2
  exact ⟨a, c, a2, c2, rfl, h1, h4, h3⟩

/-- One operation more. -/
theorem RefRunAt.next {w wr w1 w2 w3 : World} {obj m c x : Int} {zs Z Z' : List Int} {os : List (Int × Int)} {k n : Nat} {a a' : Option Addr} {c0 c' : Nat} {t t' : Value} {o1 o2 : Obj} {kd kv : Int} (hZ0 : runZ obj m zs (os.take k) = Z) (hn : os.length = n) (hk : k < n) (ho : os.getD k (0, 0) = (kd, kv))
    (h : RefRunAt w obj m zs os k (.slice a Z.length c0) t wr)
    (hc : objC obj m Z kd = c) (hx : objV obj Z kd = x) (hZ : objL obj m Z kd kv = Z')
    (r1 : Reads .i32 w1 a' Z'.length Z') (l1 : Z'.length ≤ c') (s1 : (a' = a ∧ Z' = Z) ∨ ∀ y, a' = some y → wr.heap.size ≤ y.block ∧ y.block < w1.heap.size) (b1 : Below wr.heap.size wr w1)
    (e2 : (w1.alloc o1).alloc o2 = w2) (q : w3.ownsRow w.heap.size 32 2 t' (k + 1) (flatO (runT obj m zs (os.take k)) ++ [.int .u8 c, .int .i32 x])) (g : w2.grownBy w3 t.ownBlock) (l : ∀ g, t'.ownBlock = some g → t.ownBlock = some g ∨ w2.heap.size ≤ g) :
    RefRunAt w obj m zs os (k + 1) (.slice a' Z'.length c') t' w3 := by
  subst hZ0
  have e := take_op8 os k (by omega) ho
  have eZ : runZ obj m zs (os.take (k + 1)) = Z' := by rw [e, runZ_snoc]; exact hZ
  have eT : flatO (runT obj m zs (os.take (k + 1))) = flatO (runT obj m zs (os.take k)) ++ [.int .u8 c, .int .i32 x] := by rw [e, runT_snoc, flatO_snoc, hc, hx]
  have b2 : Below w1.heap.size w1 w2 := by subst e2; exact ((Below.refl _ _).alloc (Nat.le_refl _) _).alloc (by simp) _
  have hs := b2.size
  have hs1 := b1.size
  have nt : Aside a' Z'.length t.ownBlock := by
    intro hp y hy
    rcases s1 with ⟨rfl, hz⟩ | hf
    · obtain ⟨a0, c1, hv, _, _, ha⟩ := h.r
      simp only [Value.slice.injEq, true_and] at hv
      obtain ⟨rfl, rfl⟩ := hv
      exact ha (by rw [← hz]; exact hp) y hy
    · intro e
      have := (hf y hy).1
      have := (h.o.lt _ e).2
      omega
  refine ⟨?_, by rw [eT]; exact q, ?_⟩
  · rw [eZ]
    refine ⟨a', c', rfl, reads_grown (r1.keep b2) nt g, l1, ?_⟩
    intro hp y hy e
    rcases l _ e with h1 | h1
    · exact nt hp y hy h1
    · have := reads_lt r1 hp y hy
      omega
  · exact ((h.b.trans (b1.mono h.b.size)).trans (b2.mono (Nat.le_trans h.b.size hs1))).grown g (by have := h.b.size; omega) (fun k e => (h.o.lt k e).1)

theorem op_cells2 (w : World) (a b : Int) (t : TypeId) {g : Nat} (h : w.heap.size = g) : ∀ j u, ([.int .u8 a, .int .i32 b] : List Value)[j]? = some u → (w.alloc (.cells #[.int .u8 a, .int .i32 b] t)).cell? ((⟨g, 0, none⟩ : Addr).add j) = some u := by
  subst h
  exact op_cells w a b t

theorem ok_at {os : List (Int × Int)} (h : ∀ o ∈ os, OpOk o) {i : Nat} (hi : i < os.length) : OpOk (os.getD i (0, 0)) := h _ (by simp [List.getD, hi])

set_option maxRecDepth 100000 in
set_option maxHeartbeats 8000000 in
theorem refRun (w : World) (obj most : Int) (ao ap : Option Addr) (nz capz n cap : Nat) (zs : List Int) (os : List (Int × Int)) (hz : Reads .i32 w ao nz zs) (hcz : nz ≤ capz) (ho : OpsAt w ap n os) (hok : ∀ o ∈ os, OpOk o) (hnz : nz ≤ 1000) (hn : n ≤ 1000) :
    Calls Try.prog 20 #[.int .u8 obj, .int .i64 most, .slice ao nz capz, .slice ap n cap] w (RefRunPost w obj (mostOf most) zs os) := by
  obtain ⟨j0, hj, hy0, hy1, hy2⟩ := info_parts infoRes
  have HO := Lib.hid ho
  have HN := Lib.hid ho.1
  have HK := Lib.hid hok
  have HS := Lib.hid (show RefRunAt w obj (mostOf most) zs os 0 (.slice ao nz capz) (.slice none 0 0) w from by
    have e : runZ obj (mostOf most) zs (os.take 0) = zs := rfl
    refine ⟨?_, World.ownsRow_nil _ _ _ _, Below.refl _ _⟩
    rw [e, hz.1]
    exact ⟨ao, capz, rfl, hz, hcz, fun _ x _ h => by cases h⟩)
  have HRL := Lib.hid (fun (k : Nat) => runZ_le (obj := obj) (mostOf_in most).2 (os.take k) zs (by rw [hz.1]; exact hnz))
  clear hz hcz ho hok
  go_enter Try.func20, Try.ntmps20
  go_wp2_with fail
  go_loopw [2, 10, 11] (fun s t i wr => ∃ k : Nat, k ≤ n ∧ i = .int .i64 k ∧ RefRunAt w obj (mostOf most) zs os k s t wr) (fun _ _ i _ => n - (intOf i).toNat)
  case atStart => exact ⟨0, Nat.zero_le _, rfl, HS.out⟩
  case round =>
    obtain ⟨k, hk, rfl, hr⟩ := hrel
    clear HS
    by_cases hlt : k < n
    · obtain ⟨a, c0, rfl, rd, hc0, _⟩ := hr.r
      obtain ⟨b, off, rfl, bl, hc⟩ := HO.out.2 (by omega)
      have y0 := (hr.b.cell (p := ⟨b, off + k * 2, none⟩) bl).trans (hc k hlt).1
      have y1 := (hr.b.cell (p := ⟨b, off + k * 2 + 1, none⟩) bl).trans (hc k hlt).2
      have i1 : (k : Int) < n := by omega
      have hop := ok_at HK.out (i := k) (by rw [HN.out]; exact hlt)
      obtain ⟨kd, hkd⟩ : ∃ x, (os.getD k (0, 0)).1 = x := ⟨_, rfl⟩
      obtain ⟨kv, hkv⟩ : ∃ x, (os.getD k (0, 0)).2 = x := ⟨_, rfl⟩
      have HKD := Lib.hid (show os.getD k (0, 0) = (kd, kv) by rw [← hkd, ← hkv])
      have hZl := HRL.out k
      obtain ⟨Z, hZ⟩ : ∃ Z, runZ obj (mostOf most) zs (os.take k) = Z := ⟨_, rfl⟩
      have HZ := Lib.hid hZ
      rw [hZ] at rd hc0 hZl hr ⊢
      have HR := Lib.hid hr
      rw [hkd] at y0
      rw [hkv] at y1
      have C := Lib.hid (refApply obj most kd kv rd hc0 hZl (by rw [← hkd]; exact hop.1.1))
      clear hr hc hop hkd hkv rd hZ hc0 hZl
      go_wp2_with fail
      refine C.out.mono ?_
      rintro e w1 ⟨a', c', rfl, r1, l1, s1, b1⟩
      have HT := Lib.hid (And.intro r1 (And.intro l1 (And.intro s1 b1)))
      clear r1 l1 s1 b1 C y0 y1
      obtain ⟨rc, hrc⟩ : ∃ x, objC obj (mostOf most) Z kd = x := ⟨_, rfl⟩
      obtain ⟨rv, hrv⟩ : ∃ x, objV obj Z kd = x := ⟨_, rfl⟩
      obtain ⟨Z', hZ'⟩ : ∃ x, objL obj (mostOf most) Z kd kv = x := ⟨_, rfl⟩
      rw [hrc, hrv]
      rw [hZ'] at HT ⊢
      have HQ := Lib.hid (And.intro hrc (And.intro hrv hZ'))
      clear hrc hrv hZ'
      go_upto_region 7 with (fail)
      have x0 := (RBox.new w1 rc rv).c0
      have x1 := (RBox.new w1 rc rv).c1
      have HOw := Lib.hid (show ∀ o, ((w1.alloc (.cells #[.int .u8 rc, .int .i32 rv] 32)).alloc o).ownsRow w.heap.size 32 2 u10 k (flatO (runT obj (mostOf most) zs (os.take k))) from fun o => ((own_keep HR.out.o fun g hg => HT.out.2.2.2.block g (HR.out.o.lt g hg).2).alloc _).alloc o)
      have hsz : w.heap.size ≤ w1.heap.size := Nat.le_trans HR.out.b.size HT.out.2.2.2.size
      have HMore := Lib.hid (show ∀ (v' : Value) (w3 : World) (o1 o2 : Obj), w3.ownsRow w.heap.size 32 2 v' (k + 1) (flatO (runT obj (mostOf most) zs (os.take k)) ++ [.int .u8 rc, .int .i32 rv]) → ((w1.alloc o1).alloc o2).grownBy w3 (Value.ownBlock u10) → (∀ g, v'.ownBlock = some g → Value.ownBlock u10 = some g ∨ ((w1.alloc o1).alloc o2).heap.size ≤ g) → RefRunAt w obj (mostOf most) zs os (k + 1) (.slice a' Z'.length c') v' w3 from fun v' w3 o1 o2 q g l => RefRunAt.next HZ.out HN.out hlt HKD.out HR.out HQ.out.1 HQ.out.2.1 HQ.out.2.2 HT.out.1 HT.out.2.1 HT.out.2.2.1 HT.out.2.2.2 rfl q g l)
      go_wp2_with (at_builtin; refine wpList_append_later rfl (.tmp 32) (.tmp 34) 38 rfl w.heap.size 32 j0 _ 2 8 Try.underlying38 hj hy0 hy1 hy2 rfl (by decide) _ _ _ rfl (HOw.out _) ⟨_, 0, none⟩ 1 1 [.int .u8 rc, .int .i32 rv] rfl rfl (op_cells2 _ _ _ _ (by simp)) (op_one _ _) (by simp only [maxLen]; omega) (by omega) (by simp; omega) ?_; intro v2 w2 q2 g2 l2; have HNx := Lib.hid (HMore.out _ _ _ _ q2 g2 l2); clear q2 g2 l2)
      go_roundw
      case rel => exact ⟨k + 1, by omega, by go_num, HNx.out⟩
      case measure => simp [intOf]; omega
    · obtain rfl : k = n := by omega
      have HF := Lib.hid (hr.done HN.out)
      clear hr hlt
      go_wp2
      go_ret2
      exact HF.out

end Go.Proofs.Ytejnadokjnfagaa
