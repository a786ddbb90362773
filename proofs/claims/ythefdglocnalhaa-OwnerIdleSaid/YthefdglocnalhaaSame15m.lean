/-
  reaperref15.Same tells true of threads whose numbers are equal and whose batches read the same. Conditions: batches of at most a million items, that lie in memory.
-/
import Derived.Test.YthefdglocnalhaaThrG15
import Derived.Deep.Cut
namespace Go.Proofs.Ythefdglocnalhaa.M2
open Go.RowKit

theorem neqItem (a b c : Int) (w : World) : (binOp .neq 100 (.agg #[.int .i64 a, .int .i64 b, .int .i64 c]) (.agg #[.int .i64 a, .int .i64 b, .int .i64 c])).run Try.prog w = .ok (.bool false) w := by
  have hE : (Op.equalIn 10000 100 (.agg #[.int .i64 a, .int .i64 b, .int .i64 c]) (.agg #[.int .i64 a, .int .i64 b, .int .i64 c])).run Try.prog w = .ok true w := by
    have hS : Try.prog.underlying 100 = some (.struct (Try.prog.fieldsOf 100)) := by kernel_rfl
    have hp : Try.prog.stoodInHeld 100 = false := by kernel_rfl
    rw [show (10000 : Nat) = 9998 + 1 + 1 from rfl, run_equalIn_agg w (9998 + 1) 100 _ _ hS hp]
    have u2 := Try.underlying2
    have a2 := Try.isAgg2
    have z2 := Try.sizeOf2
    have u3 := Try.underlying3
    have a3 := Try.isAgg3
    have z3 := Try.sizeOf3
    simp only [Program.fieldsOf, Try.underlying100]
    go_simp
  simp only [binOp]
  have hF : (Op.equalIn Op.maxDepth 100 (.agg #[.int .i64 a, .int .i64 b, .int .i64 c]) (.agg #[.int .i64 a, .int .i64 b, .int .i64 c])).run Try.prog w = .ok true w := hE
  simp [Op.equal, hF]

set_option maxRecDepth 100000 in
set_option maxHeartbeats 16000000 in
theorem sameT (w : World) (t : Th) (ao bo : Option Addr) (n cap dap : Nat) (l : List (Int × Int × Int)) (ha : Its w ao n l) (hb : Its w bo n l) (hn : n ≤ 1000000) :
    Calls Try.prog 23 #[thV t (.slice ao n cap), thV t (.slice bo n dap)] w fun e w' => e = .returned (.bool true) ∧ Below w.heap.size w w' := by
  unfold thV
  have HA := Lib.hid ha
  have HB := Lib.hid hb
  clear ha hb
  have heq := fun a b c => neqItem a b c
  go_enter Try.func23, Try.ntmps23
  go_upto_region 1 with (fail)
  generalize hW : (w.alloc (.cells #[.int .i64 t.ti, .int .i64 t.pc, .int .i64 t.rc, .int .i64 t.sq, .int .i64 t.wo, .int .i64 t.lk, .int .i64 t.cu, .int .i64 t.pv, .int .i64 t.nt, .int .i64 t.mx, .int .i64 t.ps, .int .i64 t.rn, .slice ao n cap] 25)).alloc (.cells #[.int .i64 t.ti, .int .i64 t.pc, .int .i64 t.rc, .int .i64 t.sq, .int .i64 t.wo, .int .i64 t.lk, .int .i64 t.cu, .int .i64 t.pv, .int .i64 t.nt, .int .i64 t.mx, .int .i64 t.ps, .int .i64 t.rn, .slice bo n dap] 25) = W
  have HX := Lib.hid (show TX W w.heap.size t (.slice ao n cap) by subst hW; exact (TX.new w t _).alloc _)
  have HY := Lib.hid (show TX W (w.heap.size + 1) t (.slice bo n dap) by
    subst hW
    have := TX.new (w.alloc (.cells #[.int .i64 t.ti, .int .i64 t.pc, .int .i64 t.rc, .int .i64 t.sq, .int .i64 t.wo, .int .i64 t.lk, .int .i64 t.cu, .int .i64 t.pv, .int .i64 t.nt, .int .i64 t.mx, .int .i64 t.ps, .int .i64 t.rn, .slice ao n cap] 25)) t (.slice bo n dap)
    simpa using this)
  have HBW := Lib.hid (show Below w.heap.size w W by subst hW; exact ((Below.refl _ _).alloc (Nat.le_refl _) _).alloc (by simp) _)
  have IA := Lib.hid (HA.out.keep HBW.out)
  have IB := Lib.hid (HB.out.keep HBW.out)
  have x12 := HX.out.c12
  have y12 := HY.out.c12
  clear hW
  go_upto_region 4 with (fail)
  go_loopw [5] (fun kv wr => ∃ j : Nat, j ≤ n ∧ kv = .int .i64 (j : Int) ∧ ∃ q, wr = W.drewN q) (fun kv _ => n - (intOf kv).toNat)
  case atStart => exact ⟨0, Nat.zero_le _, rfl, 0, rfl⟩
  case round =>
    obtain ⟨j, hj, rfl, q, rfl⟩ := hrel
    have x12 : (W.drewN q).cell? ⟨w.heap.size, 12, none⟩ = some (.slice ao n cap) := HX.out.c12
    have y12 : (W.drewN q).cell? ⟨w.heap.size + 1, 12, none⟩ = some (.slice bo n dap) := HY.out.c12
    by_cases hlt : j < n
    · obtain ⟨ab, af, rfl, al, ac⟩ := IA.out.2 (by omega)
      obtain ⟨bb, bf, rfl, bl, bc⟩ := IB.out.2 (by omega)
      obtain ⟨f0, f1, f2⟩ := fi_at l j (by rw [IA.out.1]; exact hlt)
      have p0 : W.cell? ⟨ab, af + j * 3, none⟩ = _ := ac _ _ f0
      have pd0 : (W.drewN q).cell? ⟨ab, af + j * 3, none⟩ = _ := ac _ _ f0
      have p1 : W.cell? ⟨ab, af + j * 3 + 1, none⟩ = _ := ac _ _ f1
      have pd1 : (W.drewN q).cell? ⟨ab, af + j * 3 + 1, none⟩ = _ := ac _ _ f1
      have p2 : W.cell? ⟨ab, af + j * 3 + 2, none⟩ = _ := ac _ _ f2
      have pd2 : (W.drewN q).cell? ⟨ab, af + j * 3 + 2, none⟩ = _ := ac _ _ f2
      have q0 : W.cell? ⟨bb, bf + j * 3, none⟩ = _ := bc _ _ f0
      have qd0 : (W.drewN q).cell? ⟨bb, bf + j * 3, none⟩ = _ := bc _ _ f0
      have q1 : W.cell? ⟨bb, bf + j * 3 + 1, none⟩ = _ := bc _ _ f1
      have qd1 : (W.drewN q).cell? ⟨bb, bf + j * 3 + 1, none⟩ = _ := bc _ _ f1
      have q2 : W.cell? ⟨bb, bf + j * 3 + 2, none⟩ = _ := bc _ _ f2
      have qd2 : (W.drewN q).cell? ⟨bb, bf + j * 3 + 2, none⟩ = _ := bc _ _ f2
      generalize l.getD j (0, 0, 0) = i at *
      clear ac bc f0 f1 f2
      have i1 : (j : Int) < n := by omega
      go_wp2
      go_quiet (fail)
      go_wp2
      go_roundw
      case rel => exact ⟨j + 1, hlt, by go_num, _, rfl⟩
      case measure => simp [intOf]; omega
    · have i1 : (n : Int) ≤ j := by omega
      have x0 : (W.drewN q).cell? ⟨w.heap.size, 0, none⟩ = some (.int .i64 t.ti) := HX.out.c0
      have x1 : (W.drewN q).cell? ⟨w.heap.size, 1, none⟩ = some (.int .i64 t.pc) := HX.out.c1
      have x2 : (W.drewN q).cell? ⟨w.heap.size, 2, none⟩ = some (.int .i64 t.rc) := HX.out.c2
      have x3 : (W.drewN q).cell? ⟨w.heap.size, 3, none⟩ = some (.int .i64 t.sq) := HX.out.c3
      have x4 : (W.drewN q).cell? ⟨w.heap.size, 4, none⟩ = some (.int .i64 t.wo) := HX.out.c4
      have x5 : (W.drewN q).cell? ⟨w.heap.size, 5, none⟩ = some (.int .i64 t.lk) := HX.out.c5
      have x6 : (W.drewN q).cell? ⟨w.heap.size, 6, none⟩ = some (.int .i64 t.cu) := HX.out.c6
      have x7 : (W.drewN q).cell? ⟨w.heap.size, 7, none⟩ = some (.int .i64 t.pv) := HX.out.c7
      have x8 : (W.drewN q).cell? ⟨w.heap.size, 8, none⟩ = some (.int .i64 t.nt) := HX.out.c8
      have x9 : (W.drewN q).cell? ⟨w.heap.size, 9, none⟩ = some (.int .i64 t.mx) := HX.out.c9
      have x10 : (W.drewN q).cell? ⟨w.heap.size, 10, none⟩ = some (.int .i64 t.ps) := HX.out.c10
      have x11 : (W.drewN q).cell? ⟨w.heap.size, 11, none⟩ = some (.int .i64 t.rn) := HX.out.c11
      have y0 : (W.drewN q).cell? ⟨w.heap.size + 1, 0, none⟩ = some (.int .i64 t.ti) := HY.out.c0
      have y1 : (W.drewN q).cell? ⟨w.heap.size + 1, 1, none⟩ = some (.int .i64 t.pc) := HY.out.c1
      have y2 : (W.drewN q).cell? ⟨w.heap.size + 1, 2, none⟩ = some (.int .i64 t.rc) := HY.out.c2
      have y3 : (W.drewN q).cell? ⟨w.heap.size + 1, 3, none⟩ = some (.int .i64 t.sq) := HY.out.c3
      have y4 : (W.drewN q).cell? ⟨w.heap.size + 1, 4, none⟩ = some (.int .i64 t.wo) := HY.out.c4
      have y5 : (W.drewN q).cell? ⟨w.heap.size + 1, 5, none⟩ = some (.int .i64 t.lk) := HY.out.c5
      have y6 : (W.drewN q).cell? ⟨w.heap.size + 1, 6, none⟩ = some (.int .i64 t.cu) := HY.out.c6
      have y7 : (W.drewN q).cell? ⟨w.heap.size + 1, 7, none⟩ = some (.int .i64 t.pv) := HY.out.c7
      have y8 : (W.drewN q).cell? ⟨w.heap.size + 1, 8, none⟩ = some (.int .i64 t.nt) := HY.out.c8
      have y9 : (W.drewN q).cell? ⟨w.heap.size + 1, 9, none⟩ = some (.int .i64 t.mx) := HY.out.c9
      have y10 : (W.drewN q).cell? ⟨w.heap.size + 1, 10, none⟩ = some (.int .i64 t.ps) := HY.out.c10
      have y11 : (W.drewN q).cell? ⟨w.heap.size + 1, 11, none⟩ = some (.int .i64 t.rn) := HY.out.c11
      go_wp2
      go_ret
      exact ⟨rfl, by first | exact below_drewN (below_drewN HBW.out _) _ | exact below_drewN HBW.out _⟩

end Go.Proofs.Ythefdglocnalhaa.M2
