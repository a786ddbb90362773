/-
  reaperlaw13.asks answers true, whatever the numbers and the address. Conditions: at most 200 numbers.
-/
import Derived.Test.YteckfbghldlkgaaAsks13m
namespace Go.Proofs.Yteckfbghldlkgaa.M2
open Go.RowKit

theorem asksAll (w : World) (ao : Option Addr) (len cap : Nat) (zs : List Int) (hz : Reads .i64 w ao len zs) (hl : len ≤ 200) (a : Int) (a1 : a ≤ 9223372036854775807) :
    Calls Try.prog 15 #[.slice ao len cap, .int .i64 a] w fun e w' => e = .returned (.bool true) ∧ Below w.heap.size w w' := by
  have hzl : zs.length ≤ 1000 := by have := hz.1; omega
  rcases rec_or zs.length a with ⟨k, hk, rfl⟩ | hno
  · by_cases ht : 1 ≤ zs.getD (3 + 5 * k + 4) 0 ∧ zs.getD (3 + 5 * k + 4) 0 ≤ 1099511627776
    · exact asksBy ao len cap zs hz hl _ k true _ _ _ _ _ _ _ true (fun _ _ _ _ _ m => nthIn m k hk) (fun _ _ _ _ _ h => refNthIn h hzl k hk) (fun _ _ _ _ _ m => seeIn m k hk) (fun _ _ _ _ _ h => refSeeIn h hzl k hk)
        (fun W => told _ _ _ _ _ ht.1 ht.2 W) (fun W => (ofRes _ ht.1 ht.2 W).mono fun _ _ ⟨he, hf⟩ => ⟨he, hf.below⟩)
    · have ht' : zs.getD (3 + 5 * k + 4) 0 < 1 ∨ 1099511627776 < zs.getD (3 + 5 * k + 4) 0 := by omega
      exact asksBy ao len cap zs hz hl _ k true _ _ _ _ _ _ _ false (fun _ _ _ _ _ m => nthIn m k hk) (fun _ _ _ _ _ h => refNthIn h hzl k hk) (fun _ _ _ _ _ m => seeIn m k hk) (fun _ _ _ _ _ h => refSeeIn h hzl k hk)
        (fun W => toldNo _ _ _ _ _ ht' W) (fun W => (ofResNo _ ht' W).mono fun _ _ ⟨he, hf⟩ => ⟨he, hf.below⟩)
  · exact asksBy ao len cap zs hz hl a 0 false _ _ _ _ _ _ _ false (fun _ _ _ _ _ m => nthOut m a hno a1) (fun _ _ _ _ _ h => refNthOut h hzl a hno) (fun _ _ _ _ _ m => seeOut m a hno a1) (fun _ _ _ _ _ h => refSeeOut h hzl a hno)
      (fun W => toldNo _ _ _ _ _ (.inl (by omega)) W) (fun W => (ofResNo _ (.inl (by omega)) W).mono fun _ _ ⟨he, hf⟩ => ⟨he, hf.below⟩)

end Go.Proofs.Yteckfbghldlkgaa.M2
