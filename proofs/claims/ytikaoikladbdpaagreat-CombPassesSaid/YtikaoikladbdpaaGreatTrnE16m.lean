/-
  What act of a turn (package comb) does at each place: a map of method values, of which one is called. Conditions: a turn beside its memory, as CM says, or (place 36) beside its object; steps below a million.
-/
import Derived.Test.YtikaoikladbdpaaGreatG2416
import Derived.Laws.EntriesVeiled
import Derived.Carry
namespace Go.Proofs.YtikaoikladbdpaaGreat.M2
open Go.RowKit

def pE0 (_ : Nat) : Array MapEntry := #[]
def pE1 (N : Nat) : Array MapEntry := #[{ key := .int .i64 20, val := .func (.func 72) #[.pointer (some ⟨N, 0, none⟩)] #[], born := 0 }]
def pE2 (N : Nat) : Array MapEntry := #[{ key := .int .i64 20, val := .func (.func 72) #[.pointer (some ⟨N, 0, none⟩)] #[], born := 0 },
  { key := .int .i64 21, val := .func (.func 73) #[.pointer (some ⟨N, 0, none⟩)] #[], born := 1 }]
def pE3 (N : Nat) : Array MapEntry := #[{ key := .int .i64 20, val := .func (.func 72) #[.pointer (some ⟨N, 0, none⟩)] #[], born := 0 },
  { key := .int .i64 21, val := .func (.func 73) #[.pointer (some ⟨N, 0, none⟩)] #[], born := 1 },
  { key := .int .i64 22, val := .func (.func 74) #[.pointer (some ⟨N, 0, none⟩)] #[], born := 2 }]
def pE4 (N : Nat) : Array MapEntry := #[{ key := .int .i64 20, val := .func (.func 72) #[.pointer (some ⟨N, 0, none⟩)] #[], born := 0 },
  { key := .int .i64 21, val := .func (.func 73) #[.pointer (some ⟨N, 0, none⟩)] #[], born := 1 },
  { key := .int .i64 22, val := .func (.func 74) #[.pointer (some ⟨N, 0, none⟩)] #[], born := 2 },
  { key := .int .i64 23, val := .func (.func 75) #[.pointer (some ⟨N, 0, none⟩)] #[], born := 3 }]
def pE5 (N : Nat) : Array MapEntry := #[{ key := .int .i64 20, val := .func (.func 72) #[.pointer (some ⟨N, 0, none⟩)] #[], born := 0 },
  { key := .int .i64 21, val := .func (.func 73) #[.pointer (some ⟨N, 0, none⟩)] #[], born := 1 },
  { key := .int .i64 22, val := .func (.func 74) #[.pointer (some ⟨N, 0, none⟩)] #[], born := 2 },
  { key := .int .i64 23, val := .func (.func 75) #[.pointer (some ⟨N, 0, none⟩)] #[], born := 3 },
  { key := .int .i64 24, val := .func (.func 76) #[.pointer (some ⟨N, 0, none⟩)] #[], born := 4 }]
def pE6 (N : Nat) : Array MapEntry := #[{ key := .int .i64 20, val := .func (.func 72) #[.pointer (some ⟨N, 0, none⟩)] #[], born := 0 },
  { key := .int .i64 21, val := .func (.func 73) #[.pointer (some ⟨N, 0, none⟩)] #[], born := 1 },
  { key := .int .i64 22, val := .func (.func 74) #[.pointer (some ⟨N, 0, none⟩)] #[], born := 2 },
  { key := .int .i64 23, val := .func (.func 75) #[.pointer (some ⟨N, 0, none⟩)] #[], born := 3 },
  { key := .int .i64 24, val := .func (.func 76) #[.pointer (some ⟨N, 0, none⟩)] #[], born := 4 },
  { key := .int .i64 25, val := .func (.func 77) #[.pointer (some ⟨N, 0, none⟩)] #[], born := 5 }]
def pE7 (N : Nat) : Array MapEntry := #[{ key := .int .i64 20, val := .func (.func 72) #[.pointer (some ⟨N, 0, none⟩)] #[], born := 0 },
  { key := .int .i64 21, val := .func (.func 73) #[.pointer (some ⟨N, 0, none⟩)] #[], born := 1 },
  { key := .int .i64 22, val := .func (.func 74) #[.pointer (some ⟨N, 0, none⟩)] #[], born := 2 },
  { key := .int .i64 23, val := .func (.func 75) #[.pointer (some ⟨N, 0, none⟩)] #[], born := 3 },
  { key := .int .i64 24, val := .func (.func 76) #[.pointer (some ⟨N, 0, none⟩)] #[], born := 4 },
  { key := .int .i64 25, val := .func (.func 77) #[.pointer (some ⟨N, 0, none⟩)] #[], born := 5 },
  { key := .int .i64 26, val := .func (.func 78) #[.pointer (some ⟨N, 0, none⟩)] #[], born := 6 }]
def pE8 (N : Nat) : Array MapEntry := #[{ key := .int .i64 20, val := .func (.func 72) #[.pointer (some ⟨N, 0, none⟩)] #[], born := 0 },
  { key := .int .i64 21, val := .func (.func 73) #[.pointer (some ⟨N, 0, none⟩)] #[], born := 1 },
  { key := .int .i64 22, val := .func (.func 74) #[.pointer (some ⟨N, 0, none⟩)] #[], born := 2 },
  { key := .int .i64 23, val := .func (.func 75) #[.pointer (some ⟨N, 0, none⟩)] #[], born := 3 },
  { key := .int .i64 24, val := .func (.func 76) #[.pointer (some ⟨N, 0, none⟩)] #[], born := 4 },
  { key := .int .i64 25, val := .func (.func 77) #[.pointer (some ⟨N, 0, none⟩)] #[], born := 5 },
  { key := .int .i64 26, val := .func (.func 78) #[.pointer (some ⟨N, 0, none⟩)] #[], born := 6 },
  { key := .int .i64 27, val := .func (.func 79) #[.pointer (some ⟨N, 0, none⟩)] #[], born := 7 }]
def pE9 (N : Nat) : Array MapEntry := #[{ key := .int .i64 20, val := .func (.func 72) #[.pointer (some ⟨N, 0, none⟩)] #[], born := 0 },
  { key := .int .i64 21, val := .func (.func 73) #[.pointer (some ⟨N, 0, none⟩)] #[], born := 1 },
  { key := .int .i64 22, val := .func (.func 74) #[.pointer (some ⟨N, 0, none⟩)] #[], born := 2 },
  { key := .int .i64 23, val := .func (.func 75) #[.pointer (some ⟨N, 0, none⟩)] #[], born := 3 },
  { key := .int .i64 24, val := .func (.func 76) #[.pointer (some ⟨N, 0, none⟩)] #[], born := 4 },
  { key := .int .i64 25, val := .func (.func 77) #[.pointer (some ⟨N, 0, none⟩)] #[], born := 5 },
  { key := .int .i64 26, val := .func (.func 78) #[.pointer (some ⟨N, 0, none⟩)] #[], born := 6 },
  { key := .int .i64 27, val := .func (.func 79) #[.pointer (some ⟨N, 0, none⟩)] #[], born := 7 },
  { key := .int .i64 28, val := .func (.func 80) #[.pointer (some ⟨N, 0, none⟩)] #[], born := 8 }]
def pE10 (N : Nat) : Array MapEntry := #[{ key := .int .i64 20, val := .func (.func 72) #[.pointer (some ⟨N, 0, none⟩)] #[], born := 0 },
  { key := .int .i64 21, val := .func (.func 73) #[.pointer (some ⟨N, 0, none⟩)] #[], born := 1 },
  { key := .int .i64 22, val := .func (.func 74) #[.pointer (some ⟨N, 0, none⟩)] #[], born := 2 },
  { key := .int .i64 23, val := .func (.func 75) #[.pointer (some ⟨N, 0, none⟩)] #[], born := 3 },
  { key := .int .i64 24, val := .func (.func 76) #[.pointer (some ⟨N, 0, none⟩)] #[], born := 4 },
  { key := .int .i64 25, val := .func (.func 77) #[.pointer (some ⟨N, 0, none⟩)] #[], born := 5 },
  { key := .int .i64 26, val := .func (.func 78) #[.pointer (some ⟨N, 0, none⟩)] #[], born := 6 },
  { key := .int .i64 27, val := .func (.func 79) #[.pointer (some ⟨N, 0, none⟩)] #[], born := 7 },
  { key := .int .i64 28, val := .func (.func 80) #[.pointer (some ⟨N, 0, none⟩)] #[], born := 8 },
  { key := .int .i64 29, val := .func (.func 81) #[.pointer (some ⟨N, 0, none⟩)] #[], born := 9 }]
def pE11 (N : Nat) : Array MapEntry := #[{ key := .int .i64 20, val := .func (.func 72) #[.pointer (some ⟨N, 0, none⟩)] #[], born := 0 },
  { key := .int .i64 21, val := .func (.func 73) #[.pointer (some ⟨N, 0, none⟩)] #[], born := 1 },
  { key := .int .i64 22, val := .func (.func 74) #[.pointer (some ⟨N, 0, none⟩)] #[], born := 2 },
  { key := .int .i64 23, val := .func (.func 75) #[.pointer (some ⟨N, 0, none⟩)] #[], born := 3 },
  { key := .int .i64 24, val := .func (.func 76) #[.pointer (some ⟨N, 0, none⟩)] #[], born := 4 },
  { key := .int .i64 25, val := .func (.func 77) #[.pointer (some ⟨N, 0, none⟩)] #[], born := 5 },
  { key := .int .i64 26, val := .func (.func 78) #[.pointer (some ⟨N, 0, none⟩)] #[], born := 6 },
  { key := .int .i64 27, val := .func (.func 79) #[.pointer (some ⟨N, 0, none⟩)] #[], born := 7 },
  { key := .int .i64 28, val := .func (.func 80) #[.pointer (some ⟨N, 0, none⟩)] #[], born := 8 },
  { key := .int .i64 29, val := .func (.func 81) #[.pointer (some ⟨N, 0, none⟩)] #[], born := 9 },
  { key := .int .i64 30, val := .func (.func 82) #[.pointer (some ⟨N, 0, none⟩)] #[], born := 10 }]
def pE12 (N : Nat) : Array MapEntry := #[{ key := .int .i64 20, val := .func (.func 72) #[.pointer (some ⟨N, 0, none⟩)] #[], born := 0 },
  { key := .int .i64 21, val := .func (.func 73) #[.pointer (some ⟨N, 0, none⟩)] #[], born := 1 },
  { key := .int .i64 22, val := .func (.func 74) #[.pointer (some ⟨N, 0, none⟩)] #[], born := 2 },
  { key := .int .i64 23, val := .func (.func 75) #[.pointer (some ⟨N, 0, none⟩)] #[], born := 3 },
  { key := .int .i64 24, val := .func (.func 76) #[.pointer (some ⟨N, 0, none⟩)] #[], born := 4 },
  { key := .int .i64 25, val := .func (.func 77) #[.pointer (some ⟨N, 0, none⟩)] #[], born := 5 },
  { key := .int .i64 26, val := .func (.func 78) #[.pointer (some ⟨N, 0, none⟩)] #[], born := 6 },
  { key := .int .i64 27, val := .func (.func 79) #[.pointer (some ⟨N, 0, none⟩)] #[], born := 7 },
  { key := .int .i64 28, val := .func (.func 80) #[.pointer (some ⟨N, 0, none⟩)] #[], born := 8 },
  { key := .int .i64 29, val := .func (.func 81) #[.pointer (some ⟨N, 0, none⟩)] #[], born := 9 },
  { key := .int .i64 30, val := .func (.func 82) #[.pointer (some ⟨N, 0, none⟩)] #[], born := 10 },
  { key := .int .i64 31, val := .func (.func 83) #[.pointer (some ⟨N, 0, none⟩)] #[], born := 11 }]
def pE13 (N : Nat) : Array MapEntry := #[{ key := .int .i64 20, val := .func (.func 72) #[.pointer (some ⟨N, 0, none⟩)] #[], born := 0 },
  { key := .int .i64 21, val := .func (.func 73) #[.pointer (some ⟨N, 0, none⟩)] #[], born := 1 },
  { key := .int .i64 22, val := .func (.func 74) #[.pointer (some ⟨N, 0, none⟩)] #[], born := 2 },
  { key := .int .i64 23, val := .func (.func 75) #[.pointer (some ⟨N, 0, none⟩)] #[], born := 3 },
  { key := .int .i64 24, val := .func (.func 76) #[.pointer (some ⟨N, 0, none⟩)] #[], born := 4 },
  { key := .int .i64 25, val := .func (.func 77) #[.pointer (some ⟨N, 0, none⟩)] #[], born := 5 },
  { key := .int .i64 26, val := .func (.func 78) #[.pointer (some ⟨N, 0, none⟩)] #[], born := 6 },
  { key := .int .i64 27, val := .func (.func 79) #[.pointer (some ⟨N, 0, none⟩)] #[], born := 7 },
  { key := .int .i64 28, val := .func (.func 80) #[.pointer (some ⟨N, 0, none⟩)] #[], born := 8 },
  { key := .int .i64 29, val := .func (.func 81) #[.pointer (some ⟨N, 0, none⟩)] #[], born := 9 },
  { key := .int .i64 30, val := .func (.func 82) #[.pointer (some ⟨N, 0, none⟩)] #[], born := 10 },
  { key := .int .i64 31, val := .func (.func 83) #[.pointer (some ⟨N, 0, none⟩)] #[], born := 11 },
  { key := .int .i64 32, val := .func (.func 84) #[.pointer (some ⟨N, 0, none⟩)] #[], born := 12 }]
def pE14 (N : Nat) : Array MapEntry := #[{ key := .int .i64 20, val := .func (.func 72) #[.pointer (some ⟨N, 0, none⟩)] #[], born := 0 },
  { key := .int .i64 21, val := .func (.func 73) #[.pointer (some ⟨N, 0, none⟩)] #[], born := 1 },
  { key := .int .i64 22, val := .func (.func 74) #[.pointer (some ⟨N, 0, none⟩)] #[], born := 2 },
  { key := .int .i64 23, val := .func (.func 75) #[.pointer (some ⟨N, 0, none⟩)] #[], born := 3 },
  { key := .int .i64 24, val := .func (.func 76) #[.pointer (some ⟨N, 0, none⟩)] #[], born := 4 },
  { key := .int .i64 25, val := .func (.func 77) #[.pointer (some ⟨N, 0, none⟩)] #[], born := 5 },
  { key := .int .i64 26, val := .func (.func 78) #[.pointer (some ⟨N, 0, none⟩)] #[], born := 6 },
  { key := .int .i64 27, val := .func (.func 79) #[.pointer (some ⟨N, 0, none⟩)] #[], born := 7 },
  { key := .int .i64 28, val := .func (.func 80) #[.pointer (some ⟨N, 0, none⟩)] #[], born := 8 },
  { key := .int .i64 29, val := .func (.func 81) #[.pointer (some ⟨N, 0, none⟩)] #[], born := 9 },
  { key := .int .i64 30, val := .func (.func 82) #[.pointer (some ⟨N, 0, none⟩)] #[], born := 10 },
  { key := .int .i64 31, val := .func (.func 83) #[.pointer (some ⟨N, 0, none⟩)] #[], born := 11 },
  { key := .int .i64 32, val := .func (.func 84) #[.pointer (some ⟨N, 0, none⟩)] #[], born := 12 },
  { key := .int .i64 33, val := .func (.func 85) #[.pointer (some ⟨N, 0, none⟩)] #[], born := 13 }]
def pE15 (N : Nat) : Array MapEntry := #[{ key := .int .i64 20, val := .func (.func 72) #[.pointer (some ⟨N, 0, none⟩)] #[], born := 0 },
  { key := .int .i64 21, val := .func (.func 73) #[.pointer (some ⟨N, 0, none⟩)] #[], born := 1 },
  { key := .int .i64 22, val := .func (.func 74) #[.pointer (some ⟨N, 0, none⟩)] #[], born := 2 },
  { key := .int .i64 23, val := .func (.func 75) #[.pointer (some ⟨N, 0, none⟩)] #[], born := 3 },
  { key := .int .i64 24, val := .func (.func 76) #[.pointer (some ⟨N, 0, none⟩)] #[], born := 4 },
  { key := .int .i64 25, val := .func (.func 77) #[.pointer (some ⟨N, 0, none⟩)] #[], born := 5 },
  { key := .int .i64 26, val := .func (.func 78) #[.pointer (some ⟨N, 0, none⟩)] #[], born := 6 },
  { key := .int .i64 27, val := .func (.func 79) #[.pointer (some ⟨N, 0, none⟩)] #[], born := 7 },
  { key := .int .i64 28, val := .func (.func 80) #[.pointer (some ⟨N, 0, none⟩)] #[], born := 8 },
  { key := .int .i64 29, val := .func (.func 81) #[.pointer (some ⟨N, 0, none⟩)] #[], born := 9 },
  { key := .int .i64 30, val := .func (.func 82) #[.pointer (some ⟨N, 0, none⟩)] #[], born := 10 },
  { key := .int .i64 31, val := .func (.func 83) #[.pointer (some ⟨N, 0, none⟩)] #[], born := 11 },
  { key := .int .i64 32, val := .func (.func 84) #[.pointer (some ⟨N, 0, none⟩)] #[], born := 12 },
  { key := .int .i64 33, val := .func (.func 85) #[.pointer (some ⟨N, 0, none⟩)] #[], born := 13 },
  { key := .int .i64 34, val := .func (.func 86) #[.pointer (some ⟨N, 0, none⟩)] #[], born := 14 }]
def pE16 (N : Nat) : Array MapEntry := #[{ key := .int .i64 20, val := .func (.func 72) #[.pointer (some ⟨N, 0, none⟩)] #[], born := 0 },
  { key := .int .i64 21, val := .func (.func 73) #[.pointer (some ⟨N, 0, none⟩)] #[], born := 1 },
  { key := .int .i64 22, val := .func (.func 74) #[.pointer (some ⟨N, 0, none⟩)] #[], born := 2 },
  { key := .int .i64 23, val := .func (.func 75) #[.pointer (some ⟨N, 0, none⟩)] #[], born := 3 },
  { key := .int .i64 24, val := .func (.func 76) #[.pointer (some ⟨N, 0, none⟩)] #[], born := 4 },
  { key := .int .i64 25, val := .func (.func 77) #[.pointer (some ⟨N, 0, none⟩)] #[], born := 5 },
  { key := .int .i64 26, val := .func (.func 78) #[.pointer (some ⟨N, 0, none⟩)] #[], born := 6 },
  { key := .int .i64 27, val := .func (.func 79) #[.pointer (some ⟨N, 0, none⟩)] #[], born := 7 },
  { key := .int .i64 28, val := .func (.func 80) #[.pointer (some ⟨N, 0, none⟩)] #[], born := 8 },
  { key := .int .i64 29, val := .func (.func 81) #[.pointer (some ⟨N, 0, none⟩)] #[], born := 9 },
  { key := .int .i64 30, val := .func (.func 82) #[.pointer (some ⟨N, 0, none⟩)] #[], born := 10 },
  { key := .int .i64 31, val := .func (.func 83) #[.pointer (some ⟨N, 0, none⟩)] #[], born := 11 },
  { key := .int .i64 32, val := .func (.func 84) #[.pointer (some ⟨N, 0, none⟩)] #[], born := 12 },
  { key := .int .i64 33, val := .func (.func 85) #[.pointer (some ⟨N, 0, none⟩)] #[], born := 13 },
  { key := .int .i64 34, val := .func (.func 86) #[.pointer (some ⟨N, 0, none⟩)] #[], born := 14 },
  { key := .int .i64 35, val := .func (.func 87) #[.pointer (some ⟨N, 0, none⟩)] #[], born := 15 }]
def pE17 (N : Nat) : Array MapEntry := #[{ key := .int .i64 20, val := .func (.func 72) #[.pointer (some ⟨N, 0, none⟩)] #[], born := 0 },
  { key := .int .i64 21, val := .func (.func 73) #[.pointer (some ⟨N, 0, none⟩)] #[], born := 1 },
  { key := .int .i64 22, val := .func (.func 74) #[.pointer (some ⟨N, 0, none⟩)] #[], born := 2 },
  { key := .int .i64 23, val := .func (.func 75) #[.pointer (some ⟨N, 0, none⟩)] #[], born := 3 },
  { key := .int .i64 24, val := .func (.func 76) #[.pointer (some ⟨N, 0, none⟩)] #[], born := 4 },
  { key := .int .i64 25, val := .func (.func 77) #[.pointer (some ⟨N, 0, none⟩)] #[], born := 5 },
  { key := .int .i64 26, val := .func (.func 78) #[.pointer (some ⟨N, 0, none⟩)] #[], born := 6 },
  { key := .int .i64 27, val := .func (.func 79) #[.pointer (some ⟨N, 0, none⟩)] #[], born := 7 },
  { key := .int .i64 28, val := .func (.func 80) #[.pointer (some ⟨N, 0, none⟩)] #[], born := 8 },
  { key := .int .i64 29, val := .func (.func 81) #[.pointer (some ⟨N, 0, none⟩)] #[], born := 9 },
  { key := .int .i64 30, val := .func (.func 82) #[.pointer (some ⟨N, 0, none⟩)] #[], born := 10 },
  { key := .int .i64 31, val := .func (.func 83) #[.pointer (some ⟨N, 0, none⟩)] #[], born := 11 },
  { key := .int .i64 32, val := .func (.func 84) #[.pointer (some ⟨N, 0, none⟩)] #[], born := 12 },
  { key := .int .i64 33, val := .func (.func 85) #[.pointer (some ⟨N, 0, none⟩)] #[], born := 13 },
  { key := .int .i64 34, val := .func (.func 86) #[.pointer (some ⟨N, 0, none⟩)] #[], born := 14 },
  { key := .int .i64 35, val := .func (.func 87) #[.pointer (some ⟨N, 0, none⟩)] #[], born := 15 },
  { key := .int .i64 36, val := .func (.func 88) #[.pointer (some ⟨N, 0, none⟩)] #[], born := 16 }]
def pE18 (N : Nat) : Array MapEntry := #[{ key := .int .i64 20, val := .func (.func 72) #[.pointer (some ⟨N, 0, none⟩)] #[], born := 0 },
  { key := .int .i64 21, val := .func (.func 73) #[.pointer (some ⟨N, 0, none⟩)] #[], born := 1 },
  { key := .int .i64 22, val := .func (.func 74) #[.pointer (some ⟨N, 0, none⟩)] #[], born := 2 },
  { key := .int .i64 23, val := .func (.func 75) #[.pointer (some ⟨N, 0, none⟩)] #[], born := 3 },
  { key := .int .i64 24, val := .func (.func 76) #[.pointer (some ⟨N, 0, none⟩)] #[], born := 4 },
  { key := .int .i64 25, val := .func (.func 77) #[.pointer (some ⟨N, 0, none⟩)] #[], born := 5 },
  { key := .int .i64 26, val := .func (.func 78) #[.pointer (some ⟨N, 0, none⟩)] #[], born := 6 },
  { key := .int .i64 27, val := .func (.func 79) #[.pointer (some ⟨N, 0, none⟩)] #[], born := 7 },
  { key := .int .i64 28, val := .func (.func 80) #[.pointer (some ⟨N, 0, none⟩)] #[], born := 8 },
  { key := .int .i64 29, val := .func (.func 81) #[.pointer (some ⟨N, 0, none⟩)] #[], born := 9 },
  { key := .int .i64 30, val := .func (.func 82) #[.pointer (some ⟨N, 0, none⟩)] #[], born := 10 },
  { key := .int .i64 31, val := .func (.func 83) #[.pointer (some ⟨N, 0, none⟩)] #[], born := 11 },
  { key := .int .i64 32, val := .func (.func 84) #[.pointer (some ⟨N, 0, none⟩)] #[], born := 12 },
  { key := .int .i64 33, val := .func (.func 85) #[.pointer (some ⟨N, 0, none⟩)] #[], born := 13 },
  { key := .int .i64 34, val := .func (.func 86) #[.pointer (some ⟨N, 0, none⟩)] #[], born := 14 },
  { key := .int .i64 35, val := .func (.func 87) #[.pointer (some ⟨N, 0, none⟩)] #[], born := 15 },
  { key := .int .i64 36, val := .func (.func 88) #[.pointer (some ⟨N, 0, none⟩)] #[], born := 16 },
  { key := .int .i64 37, val := .func (.func 89) #[.pointer (some ⟨N, 0, none⟩)] #[], born := 17 }]
def pE19 (N : Nat) : Array MapEntry := #[{ key := .int .i64 20, val := .func (.func 72) #[.pointer (some ⟨N, 0, none⟩)] #[], born := 0 },
  { key := .int .i64 21, val := .func (.func 73) #[.pointer (some ⟨N, 0, none⟩)] #[], born := 1 },
  { key := .int .i64 22, val := .func (.func 74) #[.pointer (some ⟨N, 0, none⟩)] #[], born := 2 },
  { key := .int .i64 23, val := .func (.func 75) #[.pointer (some ⟨N, 0, none⟩)] #[], born := 3 },
  { key := .int .i64 24, val := .func (.func 76) #[.pointer (some ⟨N, 0, none⟩)] #[], born := 4 },
  { key := .int .i64 25, val := .func (.func 77) #[.pointer (some ⟨N, 0, none⟩)] #[], born := 5 },
  { key := .int .i64 26, val := .func (.func 78) #[.pointer (some ⟨N, 0, none⟩)] #[], born := 6 },
  { key := .int .i64 27, val := .func (.func 79) #[.pointer (some ⟨N, 0, none⟩)] #[], born := 7 },
  { key := .int .i64 28, val := .func (.func 80) #[.pointer (some ⟨N, 0, none⟩)] #[], born := 8 },
  { key := .int .i64 29, val := .func (.func 81) #[.pointer (some ⟨N, 0, none⟩)] #[], born := 9 },
  { key := .int .i64 30, val := .func (.func 82) #[.pointer (some ⟨N, 0, none⟩)] #[], born := 10 },
  { key := .int .i64 31, val := .func (.func 83) #[.pointer (some ⟨N, 0, none⟩)] #[], born := 11 },
  { key := .int .i64 32, val := .func (.func 84) #[.pointer (some ⟨N, 0, none⟩)] #[], born := 12 },
  { key := .int .i64 33, val := .func (.func 85) #[.pointer (some ⟨N, 0, none⟩)] #[], born := 13 },
  { key := .int .i64 34, val := .func (.func 86) #[.pointer (some ⟨N, 0, none⟩)] #[], born := 14 },
  { key := .int .i64 35, val := .func (.func 87) #[.pointer (some ⟨N, 0, none⟩)] #[], born := 15 },
  { key := .int .i64 36, val := .func (.func 88) #[.pointer (some ⟨N, 0, none⟩)] #[], born := 16 },
  { key := .int .i64 37, val := .func (.func 89) #[.pointer (some ⟨N, 0, none⟩)] #[], born := 17 },
  { key := .int .i64 38, val := .func (.func 90) #[.pointer (some ⟨N, 0, none⟩)] #[], born := 18 }]
def pE20 (N : Nat) : Array MapEntry := #[{ key := .int .i64 20, val := .func (.func 72) #[.pointer (some ⟨N, 0, none⟩)] #[], born := 0 },
  { key := .int .i64 21, val := .func (.func 73) #[.pointer (some ⟨N, 0, none⟩)] #[], born := 1 },
  { key := .int .i64 22, val := .func (.func 74) #[.pointer (some ⟨N, 0, none⟩)] #[], born := 2 },
  { key := .int .i64 23, val := .func (.func 75) #[.pointer (some ⟨N, 0, none⟩)] #[], born := 3 },
  { key := .int .i64 24, val := .func (.func 76) #[.pointer (some ⟨N, 0, none⟩)] #[], born := 4 },
  { key := .int .i64 25, val := .func (.func 77) #[.pointer (some ⟨N, 0, none⟩)] #[], born := 5 },
  { key := .int .i64 26, val := .func (.func 78) #[.pointer (some ⟨N, 0, none⟩)] #[], born := 6 },
  { key := .int .i64 27, val := .func (.func 79) #[.pointer (some ⟨N, 0, none⟩)] #[], born := 7 },
  { key := .int .i64 28, val := .func (.func 80) #[.pointer (some ⟨N, 0, none⟩)] #[], born := 8 },
  { key := .int .i64 29, val := .func (.func 81) #[.pointer (some ⟨N, 0, none⟩)] #[], born := 9 },
  { key := .int .i64 30, val := .func (.func 82) #[.pointer (some ⟨N, 0, none⟩)] #[], born := 10 },
  { key := .int .i64 31, val := .func (.func 83) #[.pointer (some ⟨N, 0, none⟩)] #[], born := 11 },
  { key := .int .i64 32, val := .func (.func 84) #[.pointer (some ⟨N, 0, none⟩)] #[], born := 12 },
  { key := .int .i64 33, val := .func (.func 85) #[.pointer (some ⟨N, 0, none⟩)] #[], born := 13 },
  { key := .int .i64 34, val := .func (.func 86) #[.pointer (some ⟨N, 0, none⟩)] #[], born := 14 },
  { key := .int .i64 35, val := .func (.func 87) #[.pointer (some ⟨N, 0, none⟩)] #[], born := 15 },
  { key := .int .i64 36, val := .func (.func 88) #[.pointer (some ⟨N, 0, none⟩)] #[], born := 16 },
  { key := .int .i64 37, val := .func (.func 89) #[.pointer (some ⟨N, 0, none⟩)] #[], born := 17 },
  { key := .int .i64 38, val := .func (.func 90) #[.pointer (some ⟨N, 0, none⟩)] #[], born := 18 },
  { key := .int .i64 39, val := .func (.func 91) #[.pointer (some ⟨N, 0, none⟩)] #[], born := 19 }]

structure PM (w : World) (N : Nat) (W1 W2 W3 W4 W5 W6 W7 W8 W9 W10 W11 W12 W13 W14 W15 W16 W17 W18 W19 W20 : World) : Prop where
  e1 : (Instr.mapUpdate 147 (.map (some w.heap.size)) (.int .i64 20) (.func (.func 72) #[.pointer (some ⟨N, 0, none⟩)] #[])).run Tryz.prog (w.alloc (.map #[] 0)) = .ok () W1
  e2 : (Instr.mapUpdate 147 (.map (some w.heap.size)) (.int .i64 21) (.func (.func 73) #[.pointer (some ⟨N, 0, none⟩)] #[])).run Tryz.prog W1 = .ok () W2
  e3 : (Instr.mapUpdate 147 (.map (some w.heap.size)) (.int .i64 22) (.func (.func 74) #[.pointer (some ⟨N, 0, none⟩)] #[])).run Tryz.prog W2 = .ok () W3
  e4 : (Instr.mapUpdate 147 (.map (some w.heap.size)) (.int .i64 23) (.func (.func 75) #[.pointer (some ⟨N, 0, none⟩)] #[])).run Tryz.prog W3 = .ok () W4
  e5 : (Instr.mapUpdate 147 (.map (some w.heap.size)) (.int .i64 24) (.func (.func 76) #[.pointer (some ⟨N, 0, none⟩)] #[])).run Tryz.prog W4 = .ok () W5
  e6 : (Instr.mapUpdate 147 (.map (some w.heap.size)) (.int .i64 25) (.func (.func 77) #[.pointer (some ⟨N, 0, none⟩)] #[])).run Tryz.prog W5 = .ok () W6
  e7 : (Instr.mapUpdate 147 (.map (some w.heap.size)) (.int .i64 26) (.func (.func 78) #[.pointer (some ⟨N, 0, none⟩)] #[])).run Tryz.prog W6 = .ok () W7
  e8 : (Instr.mapUpdate 147 (.map (some w.heap.size)) (.int .i64 27) (.func (.func 79) #[.pointer (some ⟨N, 0, none⟩)] #[])).run Tryz.prog W7 = .ok () W8
  e9 : (Instr.mapUpdate 147 (.map (some w.heap.size)) (.int .i64 28) (.func (.func 80) #[.pointer (some ⟨N, 0, none⟩)] #[])).run Tryz.prog W8 = .ok () W9
  e10 : (Instr.mapUpdate 147 (.map (some w.heap.size)) (.int .i64 29) (.func (.func 81) #[.pointer (some ⟨N, 0, none⟩)] #[])).run Tryz.prog W9 = .ok () W10
  e11 : (Instr.mapUpdate 147 (.map (some w.heap.size)) (.int .i64 30) (.func (.func 82) #[.pointer (some ⟨N, 0, none⟩)] #[])).run Tryz.prog W10 = .ok () W11
  e12 : (Instr.mapUpdate 147 (.map (some w.heap.size)) (.int .i64 31) (.func (.func 83) #[.pointer (some ⟨N, 0, none⟩)] #[])).run Tryz.prog W11 = .ok () W12
  e13 : (Instr.mapUpdate 147 (.map (some w.heap.size)) (.int .i64 32) (.func (.func 84) #[.pointer (some ⟨N, 0, none⟩)] #[])).run Tryz.prog W12 = .ok () W13
  e14 : (Instr.mapUpdate 147 (.map (some w.heap.size)) (.int .i64 33) (.func (.func 85) #[.pointer (some ⟨N, 0, none⟩)] #[])).run Tryz.prog W13 = .ok () W14
  e15 : (Instr.mapUpdate 147 (.map (some w.heap.size)) (.int .i64 34) (.func (.func 86) #[.pointer (some ⟨N, 0, none⟩)] #[])).run Tryz.prog W14 = .ok () W15
  e16 : (Instr.mapUpdate 147 (.map (some w.heap.size)) (.int .i64 35) (.func (.func 87) #[.pointer (some ⟨N, 0, none⟩)] #[])).run Tryz.prog W15 = .ok () W16
  e17 : (Instr.mapUpdate 147 (.map (some w.heap.size)) (.int .i64 36) (.func (.func 88) #[.pointer (some ⟨N, 0, none⟩)] #[])).run Tryz.prog W16 = .ok () W17
  e18 : (Instr.mapUpdate 147 (.map (some w.heap.size)) (.int .i64 37) (.func (.func 89) #[.pointer (some ⟨N, 0, none⟩)] #[])).run Tryz.prog W17 = .ok () W18
  e19 : (Instr.mapUpdate 147 (.map (some w.heap.size)) (.int .i64 38) (.func (.func 90) #[.pointer (some ⟨N, 0, none⟩)] #[])).run Tryz.prog W18 = .ok () W19
  e20 : (Instr.mapUpdate 147 (.map (some w.heap.size)) (.int .i64 39) (.func (.func 91) #[.pointer (some ⟨N, 0, none⟩)] #[])).run Tryz.prog W19 = .ok () W20
  m : MapIs W20 w.heap.size (pE20 N)
  b : Below w.heap.size w W20

theorem pm_ex (w : World) (N : Nat) : ∃ W1 W2 W3 W4 W5 W6 W7 W8 W9 W10 W11 W12 W13 W14 W15 W16 W17 W18 W19 W20 : World, PM w N W1 W2 W3 W4 W5 W6 W7 W8 W9 W10 W11 W12 W13 W14 W15 W16 W17 W18 W19 W20 := by
  have hm := Tryz.underlying147
  have hk := Tryz.underlying3
  have m0 : MapIs (w.alloc (.map #[] 0)) w.heap.size (pE0 N) := MapIs.new w
  have b0 : Below w.heap.size w (w.alloc (.map #[] 0)) := (Below.refl _ _).alloc (Nat.le_refl _) _
  obtain ⟨W1, e1, m1, r1⟩ := put_run (P := Tryz.prog) (w.alloc (.map #[] 0)) 147 3 1 w.heap.size (pE0 N) 20 (.func (.func 72) #[.pointer (some ⟨N, 0, none⟩)] #[]) hm hk m0 rfl
  have m1 : MapIs W1 w.heap.size (pE1 N) := m1
  have b1 : Below w.heap.size w W1 := b0.trans (r1.below b0.size (fun g hg => Nat.le_of_eq (Eq.symm hg)))
  obtain ⟨W2, e2, m2, r2⟩ := put_run (P := Tryz.prog) W1 147 3 1 w.heap.size (pE1 N) 21 (.func (.func 73) #[.pointer (some ⟨N, 0, none⟩)] #[]) hm hk m1 rfl
  have m2 : MapIs W2 w.heap.size (pE2 N) := m2
  have b2 : Below w.heap.size w W2 := b1.trans (r2.below b1.size (fun g hg => Nat.le_of_eq (Eq.symm hg)))
  obtain ⟨W3, e3, m3, r3⟩ := put_run (P := Tryz.prog) W2 147 3 1 w.heap.size (pE2 N) 22 (.func (.func 74) #[.pointer (some ⟨N, 0, none⟩)] #[]) hm hk m2 rfl
  have m3 : MapIs W3 w.heap.size (pE3 N) := m3
  have b3 : Below w.heap.size w W3 := b2.trans (r3.below b2.size (fun g hg => Nat.le_of_eq (Eq.symm hg)))
  obtain ⟨W4, e4, m4, r4⟩ := put_run (P := Tryz.prog) W3 147 3 1 w.heap.size (pE3 N) 23 (.func (.func 75) #[.pointer (some ⟨N, 0, none⟩)] #[]) hm hk m3 rfl
  have m4 : MapIs W4 w.heap.size (pE4 N) := m4
  have b4 : Below w.heap.size w W4 := b3.trans (r4.below b3.size (fun g hg => Nat.le_of_eq (Eq.symm hg)))
  obtain ⟨W5, e5, m5, r5⟩ := put_run (P := Tryz.prog) W4 147 3 1 w.heap.size (pE4 N) 24 (.func (.func 76) #[.pointer (some ⟨N, 0, none⟩)] #[]) hm hk m4 rfl
  have m5 : MapIs W5 w.heap.size (pE5 N) := m5
  have b5 : Below w.heap.size w W5 := b4.trans (r5.below b4.size (fun g hg => Nat.le_of_eq (Eq.symm hg)))
  obtain ⟨W6, e6, m6, r6⟩ := put_run (P := Tryz.prog) W5 147 3 1 w.heap.size (pE5 N) 25 (.func (.func 77) #[.pointer (some ⟨N, 0, none⟩)] #[]) hm hk m5 rfl
  have m6 : MapIs W6 w.heap.size (pE6 N) := m6
  have b6 : Below w.heap.size w W6 := b5.trans (r6.below b5.size (fun g hg => Nat.le_of_eq (Eq.symm hg)))
  obtain ⟨W7, e7, m7, r7⟩ := put_run (P := Tryz.prog) W6 147 3 1 w.heap.size (pE6 N) 26 (.func (.func 78) #[.pointer (some ⟨N, 0, none⟩)] #[]) hm hk m6 rfl
  have m7 : MapIs W7 w.heap.size (pE7 N) := m7
  have b7 : Below w.heap.size w W7 := b6.trans (r7.below b6.size (fun g hg => Nat.le_of_eq (Eq.symm hg)))
  obtain ⟨W8, e8, m8, r8⟩ := put_run (P := Tryz.prog) W7 147 3 1 w.heap.size (pE7 N) 27 (.func (.func 79) #[.pointer (some ⟨N, 0, none⟩)] #[]) hm hk m7 rfl
  have m8 : MapIs W8 w.heap.size (pE8 N) := m8
  have b8 : Below w.heap.size w W8 := b7.trans (r8.below b7.size (fun g hg => Nat.le_of_eq (Eq.symm hg)))
  obtain ⟨W9, e9, m9, r9⟩ := put_run (P := Tryz.prog) W8 147 3 1 w.heap.size (pE8 N) 28 (.func (.func 80) #[.pointer (some ⟨N, 0, none⟩)] #[]) hm hk m8 rfl
  have m9 : MapIs W9 w.heap.size (pE9 N) := m9
  have b9 : Below w.heap.size w W9 := b8.trans (r9.below b8.size (fun g hg => Nat.le_of_eq (Eq.symm hg)))
  obtain ⟨W10, e10, m10, r10⟩ := put_run (P := Tryz.prog) W9 147 3 1 w.heap.size (pE9 N) 29 (.func (.func 81) #[.pointer (some ⟨N, 0, none⟩)] #[]) hm hk m9 rfl
  have m10 : MapIs W10 w.heap.size (pE10 N) := m10
  have b10 : Below w.heap.size w W10 := b9.trans (r10.below b9.size (fun g hg => Nat.le_of_eq (Eq.symm hg)))
  obtain ⟨W11, e11, m11, r11⟩ := put_run (P := Tryz.prog) W10 147 3 1 w.heap.size (pE10 N) 30 (.func (.func 82) #[.pointer (some ⟨N, 0, none⟩)] #[]) hm hk m10 rfl
  have m11 : MapIs W11 w.heap.size (pE11 N) := m11
  have b11 : Below w.heap.size w W11 := b10.trans (r11.below b10.size (fun g hg => Nat.le_of_eq (Eq.symm hg)))
  obtain ⟨W12, e12, m12, r12⟩ := put_run (P := Tryz.prog) W11 147 3 1 w.heap.size (pE11 N) 31 (.func (.func 83) #[.pointer (some ⟨N, 0, none⟩)] #[]) hm hk m11 rfl
  have m12 : MapIs W12 w.heap.size (pE12 N) := m12
  have b12 : Below w.heap.size w W12 := b11.trans (r12.below b11.size (fun g hg => Nat.le_of_eq (Eq.symm hg)))
  obtain ⟨W13, e13, m13, r13⟩ := put_run (P := Tryz.prog) W12 147 3 1 w.heap.size (pE12 N) 32 (.func (.func 84) #[.pointer (some ⟨N, 0, none⟩)] #[]) hm hk m12 rfl
  have m13 : MapIs W13 w.heap.size (pE13 N) := m13
  have b13 : Below w.heap.size w W13 := b12.trans (r13.below b12.size (fun g hg => Nat.le_of_eq (Eq.symm hg)))
  obtain ⟨W14, e14, m14, r14⟩ := put_run (P := Tryz.prog) W13 147 3 1 w.heap.size (pE13 N) 33 (.func (.func 85) #[.pointer (some ⟨N, 0, none⟩)] #[]) hm hk m13 rfl
  have m14 : MapIs W14 w.heap.size (pE14 N) := m14
  have b14 : Below w.heap.size w W14 := b13.trans (r14.below b13.size (fun g hg => Nat.le_of_eq (Eq.symm hg)))
  obtain ⟨W15, e15, m15, r15⟩ := put_run (P := Tryz.prog) W14 147 3 1 w.heap.size (pE14 N) 34 (.func (.func 86) #[.pointer (some ⟨N, 0, none⟩)] #[]) hm hk m14 rfl
  have m15 : MapIs W15 w.heap.size (pE15 N) := m15
  have b15 : Below w.heap.size w W15 := b14.trans (r15.below b14.size (fun g hg => Nat.le_of_eq (Eq.symm hg)))
  obtain ⟨W16, e16, m16, r16⟩ := put_run (P := Tryz.prog) W15 147 3 1 w.heap.size (pE15 N) 35 (.func (.func 87) #[.pointer (some ⟨N, 0, none⟩)] #[]) hm hk m15 rfl
  have m16 : MapIs W16 w.heap.size (pE16 N) := m16
  have b16 : Below w.heap.size w W16 := b15.trans (r16.below b15.size (fun g hg => Nat.le_of_eq (Eq.symm hg)))
  obtain ⟨W17, e17, m17, r17⟩ := put_run (P := Tryz.prog) W16 147 3 1 w.heap.size (pE16 N) 36 (.func (.func 88) #[.pointer (some ⟨N, 0, none⟩)] #[]) hm hk m16 rfl
  have m17 : MapIs W17 w.heap.size (pE17 N) := m17
  have b17 : Below w.heap.size w W17 := b16.trans (r17.below b16.size (fun g hg => Nat.le_of_eq (Eq.symm hg)))
  obtain ⟨W18, e18, m18, r18⟩ := put_run (P := Tryz.prog) W17 147 3 1 w.heap.size (pE17 N) 37 (.func (.func 89) #[.pointer (some ⟨N, 0, none⟩)] #[]) hm hk m17 rfl
  have m18 : MapIs W18 w.heap.size (pE18 N) := m18
  have b18 : Below w.heap.size w W18 := b17.trans (r18.below b17.size (fun g hg => Nat.le_of_eq (Eq.symm hg)))
  obtain ⟨W19, e19, m19, r19⟩ := put_run (P := Tryz.prog) W18 147 3 1 w.heap.size (pE18 N) 38 (.func (.func 90) #[.pointer (some ⟨N, 0, none⟩)] #[]) hm hk m18 rfl
  have m19 : MapIs W19 w.heap.size (pE19 N) := m19
  have b19 : Below w.heap.size w W19 := b18.trans (r19.below b18.size (fun g hg => Nat.le_of_eq (Eq.symm hg)))
  obtain ⟨W20, e20, m20, r20⟩ := put_run (P := Tryz.prog) W19 147 3 1 w.heap.size (pE19 N) 39 (.func (.func 91) #[.pointer (some ⟨N, 0, none⟩)] #[]) hm hk m19 rfl
  have m20 : MapIs W20 w.heap.size (pE20 N) := m20
  have b20 : Below w.heap.size w W20 := b19.trans (r20.below b19.size (fun g hg => Nat.le_of_eq (Eq.symm hg)))
  exact ⟨W1, W2, W3, W4, W5, W6, W7, W8, W9, W10, W11, W12, W13, W14, W15, W16, W17, W18, W19, W20, ⟨e1, e2, e3, e4, e5, e6, e7, e8, e9, e10, e11, e12, e13, e14, e15, e16, e17, e18, e19, e20, m20, b20⟩⟩
theorem look20 {w : World} {r N : Nat} (h : MapIs w r (pE20 N)) : (Instr.lookup 147 (.map (some r)) (.int .i64 20) false).run Tryz.prog w = .ok (.func (.func 72) #[.pointer (some ⟨N, 0, none⟩)] #[]) w := run_lookIn (P := Tryz.prog) w 147 3 1 r (pE20 N) 20 false 0 _ Tryz.underlying147 Tryz.underlying3 h rfl
theorem look21 {w : World} {r N : Nat} (h : MapIs w r (pE20 N)) : (Instr.lookup 147 (.map (some r)) (.int .i64 21) false).run Tryz.prog w = .ok (.func (.func 73) #[.pointer (some ⟨N, 0, none⟩)] #[]) w := run_lookIn (P := Tryz.prog) w 147 3 1 r (pE20 N) 21 false 1 _ Tryz.underlying147 Tryz.underlying3 h rfl
theorem look22 {w : World} {r N : Nat} (h : MapIs w r (pE20 N)) : (Instr.lookup 147 (.map (some r)) (.int .i64 22) false).run Tryz.prog w = .ok (.func (.func 74) #[.pointer (some ⟨N, 0, none⟩)] #[]) w := run_lookIn (P := Tryz.prog) w 147 3 1 r (pE20 N) 22 false 2 _ Tryz.underlying147 Tryz.underlying3 h rfl
theorem look23 {w : World} {r N : Nat} (h : MapIs w r (pE20 N)) : (Instr.lookup 147 (.map (some r)) (.int .i64 23) false).run Tryz.prog w = .ok (.func (.func 75) #[.pointer (some ⟨N, 0, none⟩)] #[]) w := run_lookIn (P := Tryz.prog) w 147 3 1 r (pE20 N) 23 false 3 _ Tryz.underlying147 Tryz.underlying3 h rfl
theorem look24 {w : World} {r N : Nat} (h : MapIs w r (pE20 N)) : (Instr.lookup 147 (.map (some r)) (.int .i64 24) false).run Tryz.prog w = .ok (.func (.func 76) #[.pointer (some ⟨N, 0, none⟩)] #[]) w := run_lookIn (P := Tryz.prog) w 147 3 1 r (pE20 N) 24 false 4 _ Tryz.underlying147 Tryz.underlying3 h rfl
theorem look25 {w : World} {r N : Nat} (h : MapIs w r (pE20 N)) : (Instr.lookup 147 (.map (some r)) (.int .i64 25) false).run Tryz.prog w = .ok (.func (.func 77) #[.pointer (some ⟨N, 0, none⟩)] #[]) w := run_lookIn (P := Tryz.prog) w 147 3 1 r (pE20 N) 25 false 5 _ Tryz.underlying147 Tryz.underlying3 h rfl
theorem look26 {w : World} {r N : Nat} (h : MapIs w r (pE20 N)) : (Instr.lookup 147 (.map (some r)) (.int .i64 26) false).run Tryz.prog w = .ok (.func (.func 78) #[.pointer (some ⟨N, 0, none⟩)] #[]) w := run_lookIn (P := Tryz.prog) w 147 3 1 r (pE20 N) 26 false 6 _ Tryz.underlying147 Tryz.underlying3 h rfl
theorem look27 {w : World} {r N : Nat} (h : MapIs w r (pE20 N)) : (Instr.lookup 147 (.map (some r)) (.int .i64 27) false).run Tryz.prog w = .ok (.func (.func 79) #[.pointer (some ⟨N, 0, none⟩)] #[]) w := run_lookIn (P := Tryz.prog) w 147 3 1 r (pE20 N) 27 false 7 _ Tryz.underlying147 Tryz.underlying3 h rfl
theorem look28 {w : World} {r N : Nat} (h : MapIs w r (pE20 N)) : (Instr.lookup 147 (.map (some r)) (.int .i64 28) false).run Tryz.prog w = .ok (.func (.func 80) #[.pointer (some ⟨N, 0, none⟩)] #[]) w := run_lookIn (P := Tryz.prog) w 147 3 1 r (pE20 N) 28 false 8 _ Tryz.underlying147 Tryz.underlying3 h rfl
theorem look29 {w : World} {r N : Nat} (h : MapIs w r (pE20 N)) : (Instr.lookup 147 (.map (some r)) (.int .i64 29) false).run Tryz.prog w = .ok (.func (.func 81) #[.pointer (some ⟨N, 0, none⟩)] #[]) w := run_lookIn (P := Tryz.prog) w 147 3 1 r (pE20 N) 29 false 9 _ Tryz.underlying147 Tryz.underlying3 h rfl
theorem look30 {w : World} {r N : Nat} (h : MapIs w r (pE20 N)) : (Instr.lookup 147 (.map (some r)) (.int .i64 30) false).run Tryz.prog w = .ok (.func (.func 82) #[.pointer (some ⟨N, 0, none⟩)] #[]) w := run_lookIn (P := Tryz.prog) w 147 3 1 r (pE20 N) 30 false 10 _ Tryz.underlying147 Tryz.underlying3 h rfl
theorem look31 {w : World} {r N : Nat} (h : MapIs w r (pE20 N)) : (Instr.lookup 147 (.map (some r)) (.int .i64 31) false).run Tryz.prog w = .ok (.func (.func 83) #[.pointer (some ⟨N, 0, none⟩)] #[]) w := run_lookIn (P := Tryz.prog) w 147 3 1 r (pE20 N) 31 false 11 _ Tryz.underlying147 Tryz.underlying3 h rfl
theorem look32 {w : World} {r N : Nat} (h : MapIs w r (pE20 N)) : (Instr.lookup 147 (.map (some r)) (.int .i64 32) false).run Tryz.prog w = .ok (.func (.func 84) #[.pointer (some ⟨N, 0, none⟩)] #[]) w := run_lookIn (P := Tryz.prog) w 147 3 1 r (pE20 N) 32 false 12 _ Tryz.underlying147 Tryz.underlying3 h rfl
theorem look33 {w : World} {r N : Nat} (h : MapIs w r (pE20 N)) : (Instr.lookup 147 (.map (some r)) (.int .i64 33) false).run Tryz.prog w = .ok (.func (.func 85) #[.pointer (some ⟨N, 0, none⟩)] #[]) w := run_lookIn (P := Tryz.prog) w 147 3 1 r (pE20 N) 33 false 13 _ Tryz.underlying147 Tryz.underlying3 h rfl
theorem look34 {w : World} {r N : Nat} (h : MapIs w r (pE20 N)) : (Instr.lookup 147 (.map (some r)) (.int .i64 34) false).run Tryz.prog w = .ok (.func (.func 86) #[.pointer (some ⟨N, 0, none⟩)] #[]) w := run_lookIn (P := Tryz.prog) w 147 3 1 r (pE20 N) 34 false 14 _ Tryz.underlying147 Tryz.underlying3 h rfl
theorem look35 {w : World} {r N : Nat} (h : MapIs w r (pE20 N)) : (Instr.lookup 147 (.map (some r)) (.int .i64 35) false).run Tryz.prog w = .ok (.func (.func 87) #[.pointer (some ⟨N, 0, none⟩)] #[]) w := run_lookIn (P := Tryz.prog) w 147 3 1 r (pE20 N) 35 false 15 _ Tryz.underlying147 Tryz.underlying3 h rfl
theorem look36 {w : World} {r N : Nat} (h : MapIs w r (pE20 N)) : (Instr.lookup 147 (.map (some r)) (.int .i64 36) false).run Tryz.prog w = .ok (.func (.func 88) #[.pointer (some ⟨N, 0, none⟩)] #[]) w := run_lookIn (P := Tryz.prog) w 147 3 1 r (pE20 N) 36 false 16 _ Tryz.underlying147 Tryz.underlying3 h rfl
theorem look37 {w : World} {r N : Nat} (h : MapIs w r (pE20 N)) : (Instr.lookup 147 (.map (some r)) (.int .i64 37) false).run Tryz.prog w = .ok (.func (.func 89) #[.pointer (some ⟨N, 0, none⟩)] #[]) w := run_lookIn (P := Tryz.prog) w 147 3 1 r (pE20 N) 37 false 17 _ Tryz.underlying147 Tryz.underlying3 h rfl
theorem look38 {w : World} {r N : Nat} (h : MapIs w r (pE20 N)) : (Instr.lookup 147 (.map (some r)) (.int .i64 38) false).run Tryz.prog w = .ok (.func (.func 90) #[.pointer (some ⟨N, 0, none⟩)] #[]) w := run_lookIn (P := Tryz.prog) w 147 3 1 r (pE20 N) 38 false 18 _ Tryz.underlying147 Tryz.underlying3 h rfl
theorem look39 {w : World} {r N : Nat} (h : MapIs w r (pE20 N)) : (Instr.lookup 147 (.map (some r)) (.int .i64 39) false).run Tryz.prog w = .ok (.func (.func 91) #[.pointer (some ⟨N, 0, none⟩)] #[]) w := run_lookIn (P := Tryz.prog) w 147 3 1 r (pE20 N) 39 false 19 _ Tryz.underlying147 Tryz.underlying3 h rfl

theorem DoP.from {w W w' : World} {F : Nat → Prop} {N p o : Nat} {t : Th} {pa k m : Int} {pl : Bool} {s : List It × List Bool} {l : List It3} {e : Ending} (hb : Below w.heap.size w W) (h : DoP W F N p t o pa k m pl s l e w') : DoP w F N p t o pa k m pl s l e w' := by
  obtain ⟨he, b', dn', F', h1, h2, h3, h4, h5, h6, h7, h8, h9⟩ := h
  have low : ∀ {v : Value}, BR W.heap.size w' v (doL k m s l) → BR w.heap.size w' v (doL k m s l) := fun {v} h => by
    refine ⟨h.1, ?_⟩
    rcases h.2 with hn | ⟨q, c, cur, e, hl, r⟩
    · exact .inl hn
    · exact .inr ⟨q, c, cur, e, Nat.le_trans hb.size hl, r⟩
  exact ⟨he, b', dn', F', h1, low h2, low h3, h4, h5, h6, h7, (_root_.Go.Proofs.YtikaoikladbdpaaGreat.Wrote.of hb _).trans h8, fun g hg => (h9 g hg).imp id (fun h => Nat.le_trans hb.size h)⟩

def ActPost (w0 : World) (M B p N : Nat) (v0 : Value) (size : Int) (o : Value) (pa : Int) (dn : Value) (S : Cs) (st : Int) (e : Ending) (w' : World) : Prop := e = .returned (.tuple #[]) ∧ ∃ b', CM w0 M B p N v0 size S.t b' o pa dn S.l S.zs (st + S.c) w'

set_option maxRecDepth 100000 in
set_option maxHeartbeats 16000000 in
theorem actBy {w : World} {N : Nat} {pc : Int} {Q : Ending → World → Prop} (hp : 20 ≤ pc ∧ pc ≤ 39) (c1 : w.cell? ⟨N, 1, none⟩ = some (.int .i64 pc)) (hN : N < w.heap.size)
    (hQ : ∀ e w', Q e w' → e = .returned (.tuple #[]))
    (C : ∀ W, Below w.heap.size w W →
      (pc = 20 → Calls Tryz.prog 72 #[.pointer (some ⟨N, 0, none⟩)] W Q) ∧
      (pc = 21 → Calls Tryz.prog 73 #[.pointer (some ⟨N, 0, none⟩)] W Q) ∧
      (pc = 22 → Calls Tryz.prog 74 #[.pointer (some ⟨N, 0, none⟩)] W Q) ∧
      (pc = 23 → Calls Tryz.prog 75 #[.pointer (some ⟨N, 0, none⟩)] W Q) ∧
      (pc = 24 → Calls Tryz.prog 76 #[.pointer (some ⟨N, 0, none⟩)] W Q) ∧
      (pc = 25 → Calls Tryz.prog 77 #[.pointer (some ⟨N, 0, none⟩)] W Q) ∧
      (pc = 26 → Calls Tryz.prog 78 #[.pointer (some ⟨N, 0, none⟩)] W Q) ∧
      (pc = 27 → Calls Tryz.prog 79 #[.pointer (some ⟨N, 0, none⟩)] W Q) ∧
      (pc = 28 → Calls Tryz.prog 80 #[.pointer (some ⟨N, 0, none⟩)] W Q) ∧
      (pc = 29 → Calls Tryz.prog 81 #[.pointer (some ⟨N, 0, none⟩)] W Q) ∧
      (pc = 30 → Calls Tryz.prog 82 #[.pointer (some ⟨N, 0, none⟩)] W Q) ∧
      (pc = 31 → Calls Tryz.prog 83 #[.pointer (some ⟨N, 0, none⟩)] W Q) ∧
      (pc = 32 → Calls Tryz.prog 84 #[.pointer (some ⟨N, 0, none⟩)] W Q) ∧
      (pc = 33 → Calls Tryz.prog 85 #[.pointer (some ⟨N, 0, none⟩)] W Q) ∧
      (pc = 34 → Calls Tryz.prog 86 #[.pointer (some ⟨N, 0, none⟩)] W Q) ∧
      (pc = 35 → Calls Tryz.prog 87 #[.pointer (some ⟨N, 0, none⟩)] W Q) ∧
      (pc = 36 → Calls Tryz.prog 88 #[.pointer (some ⟨N, 0, none⟩)] W Q) ∧
      (pc = 37 → Calls Tryz.prog 89 #[.pointer (some ⟨N, 0, none⟩)] W Q) ∧
      (pc = 38 → Calls Tryz.prog 90 #[.pointer (some ⟨N, 0, none⟩)] W Q) ∧
      (pc = 39 → Calls Tryz.prog 91 #[.pointer (some ⟨N, 0, none⟩)] W Q)) :
    Calls Tryz.prog 48 #[.pointer (some ⟨N, 0, none⟩)] w Q := by
  have hmm := @run_makeMap Tryz.prog
  have hmf : ∀ (fn : Fn) (first cap : Array Value) (w : World), (Instr.makeFunc fn first cap).run Tryz.prog w = .ok (.func fn first cap) w := fun _ _ _ _ => rfl
  obtain ⟨W1, W2, W3, W4, W5, W6, W7, W8, W9, W10, W11, W12, W13, W14, W15, W16, W17, W18, W19, W20, pm⟩ := pm_ex w N
  have e1 := pm.e1
  have e2 := pm.e2
  have e3 := pm.e3
  have e4 := pm.e4
  have e5 := pm.e5
  have e6 := pm.e6
  have e7 := pm.e7
  have e8 := pm.e8
  have e9 := pm.e9
  have e10 := pm.e10
  have e11 := pm.e11
  have e12 := pm.e12
  have e13 := pm.e13
  have e14 := pm.e14
  have e15 := pm.e15
  have e16 := pm.e16
  have e17 := pm.e17
  have e18 := pm.e18
  have e19 := pm.e19
  have e20 := pm.e20
  have CC := Lib.hid (C W20 pm.b)
  have d1 : W20.cell? ⟨N, 1, none⟩ = some (.int .i64 pc) := (pm.b.cell (p := ⟨N, 1, none⟩) hN).trans c1
  have HM := Lib.hid pm.m
  have HQ := Lib.hid hQ
  clear pm C c1
  go_enter Tryz.func48, Tryz.ntmps48
  go_upto_region 1 with (fail)
  clear hmf hmm e1 e2 e3 e4 e5 e6 e7 e8 e9 e10 e11 e12 e13 e14 e15 e16 e17 e18 e19 e20
  rcases (show pc = 20 ∨ pc = 21 ∨ pc = 22 ∨ pc = 23 ∨ pc = 24 ∨ pc = 25 ∨ pc = 26 ∨ pc = 27 ∨ pc = 28 ∨ pc = 29 ∨ pc = 30 ∨ pc = 31 ∨ pc = 32 ∨ pc = 33 ∨ pc = 34 ∨ pc = 35 ∨ pc = 36 ∨ pc = 37 ∨ pc = 38 ∨ pc = 39 from by omega) with hq | hq | hq | hq | hq | hq | hq | hq | hq | hq | hq | hq | hq | hq | hq | hq | hq | hq | hq | hq
  · subst hq
    have C := CC.out.1 rfl
    have hlk := look20 HM.out
    clear CC HM
    go_wp2_with fail
    with_reducible refine C.mono ?_
    clear C hlk d1
    intro e w2 h2
    obtain rfl := HQ.out e w2 h2
    have H2 := Lib.hid h2
    clear h2 HQ
    go_wp2
    go_end0
    exact H2.out
  · subst hq
    have C := CC.out.2.1 rfl
    have hlk := look21 HM.out
    clear CC HM
    go_wp2_with fail
    with_reducible refine C.mono ?_
    clear C hlk d1
    intro e w2 h2
    obtain rfl := HQ.out e w2 h2
    have H2 := Lib.hid h2
    clear h2 HQ
    go_wp2
    go_end0
    exact H2.out
  · subst hq
    have C := CC.out.2.2.1 rfl
    have hlk := look22 HM.out
    clear CC HM
    go_wp2_with fail
    with_reducible refine C.mono ?_
    clear C hlk d1
    intro e w2 h2
    obtain rfl := HQ.out e w2 h2
    have H2 := Lib.hid h2
    clear h2 HQ
    go_wp2
    go_end0
    exact H2.out
  · subst hq
    have C := CC.out.2.2.2.1 rfl
    have hlk := look23 HM.out
    clear CC HM
    go_wp2_with fail
    with_reducible refine C.mono ?_
    clear C hlk d1
    intro e w2 h2
    obtain rfl := HQ.out e w2 h2
    have H2 := Lib.hid h2
    clear h2 HQ
    go_wp2
    go_end0
    exact H2.out
  · subst hq
    have C := CC.out.2.2.2.2.1 rfl
    have hlk := look24 HM.out
    clear CC HM
    go_wp2_with fail
    with_reducible refine C.mono ?_
    clear C hlk d1
    intro e w2 h2
    obtain rfl := HQ.out e w2 h2
    have H2 := Lib.hid h2
    clear h2 HQ
    go_wp2
    go_end0
    exact H2.out
  · subst hq
    have C := CC.out.2.2.2.2.2.1 rfl
    have hlk := look25 HM.out
    clear CC HM
    go_wp2_with fail
    with_reducible refine C.mono ?_
    clear C hlk d1
    intro e w2 h2
    obtain rfl := HQ.out e w2 h2
    have H2 := Lib.hid h2
    clear h2 HQ
    go_wp2
    go_end0
    exact H2.out
  · subst hq
    have C := CC.out.2.2.2.2.2.2.1 rfl
    have hlk := look26 HM.out
    clear CC HM
    go_wp2_with fail
    with_reducible refine C.mono ?_
    clear C hlk d1
    intro e w2 h2
    obtain rfl := HQ.out e w2 h2
    have H2 := Lib.hid h2
    clear h2 HQ
    go_wp2
    go_end0
    exact H2.out
  · subst hq
    have C := CC.out.2.2.2.2.2.2.2.1 rfl
    have hlk := look27 HM.out
    clear CC HM
    go_wp2_with fail
    with_reducible refine C.mono ?_
    clear C hlk d1
    intro e w2 h2
    obtain rfl := HQ.out e w2 h2
    have H2 := Lib.hid h2
    clear h2 HQ
    go_wp2
    go_end0
    exact H2.out
  · subst hq
    have C := CC.out.2.2.2.2.2.2.2.2.1 rfl
    have hlk := look28 HM.out
    clear CC HM
    go_wp2_with fail
    with_reducible refine C.mono ?_
    clear C hlk d1
    intro e w2 h2
    obtain rfl := HQ.out e w2 h2
    have H2 := Lib.hid h2
    clear h2 HQ
    go_wp2
    go_end0
    exact H2.out
  · subst hq
    have C := CC.out.2.2.2.2.2.2.2.2.2.1 rfl
    have hlk := look29 HM.out
    clear CC HM
    go_wp2_with fail
    with_reducible refine C.mono ?_
    clear C hlk d1
    intro e w2 h2
    obtain rfl := HQ.out e w2 h2
    have H2 := Lib.hid h2
    clear h2 HQ
    go_wp2
    go_end0
    exact H2.out
  · subst hq
    have C := CC.out.2.2.2.2.2.2.2.2.2.2.1 rfl
    have hlk := look30 HM.out
    clear CC HM
    go_wp2_with fail
    with_reducible refine C.mono ?_
    clear C hlk d1
    intro e w2 h2
    obtain rfl := HQ.out e w2 h2
    have H2 := Lib.hid h2
    clear h2 HQ
    go_wp2
    go_end0
    exact H2.out
  · subst hq
    have C := CC.out.2.2.2.2.2.2.2.2.2.2.2.1 rfl
    have hlk := look31 HM.out
    clear CC HM
    go_wp2_with fail
    with_reducible refine C.mono ?_
    clear C hlk d1
    intro e w2 h2
    obtain rfl := HQ.out e w2 h2
    have H2 := Lib.hid h2
    clear h2 HQ
    go_wp2
    go_end0
    exact H2.out
  · subst hq
    have C := CC.out.2.2.2.2.2.2.2.2.2.2.2.2.1 rfl
    have hlk := look32 HM.out
    clear CC HM
    go_wp2_with fail
    with_reducible refine C.mono ?_
    clear C hlk d1
    intro e w2 h2
    obtain rfl := HQ.out e w2 h2
    have H2 := Lib.hid h2
    clear h2 HQ
    go_wp2
    go_end0
    exact H2.out
  · subst hq
    have C := CC.out.2.2.2.2.2.2.2.2.2.2.2.2.2.1 rfl
    have hlk := look33 HM.out
    clear CC HM
    go_wp2_with fail
    with_reducible refine C.mono ?_
    clear C hlk d1
    intro e w2 h2
    obtain rfl := HQ.out e w2 h2
    have H2 := Lib.hid h2
    clear h2 HQ
    go_wp2
    go_end0
    exact H2.out
  · subst hq
    have C := CC.out.2.2.2.2.2.2.2.2.2.2.2.2.2.2.1 rfl
    have hlk := look34 HM.out
    clear CC HM
    go_wp2_with fail
    with_reducible refine C.mono ?_
    clear C hlk d1
    intro e w2 h2
    obtain rfl := HQ.out e w2 h2
    have H2 := Lib.hid h2
    clear h2 HQ
    go_wp2
    go_end0
    exact H2.out
  · subst hq
    have C := CC.out.2.2.2.2.2.2.2.2.2.2.2.2.2.2.2.1 rfl
    have hlk := look35 HM.out
    clear CC HM
    go_wp2_with fail
    with_reducible refine C.mono ?_
    clear C hlk d1
    intro e w2 h2
    obtain rfl := HQ.out e w2 h2
    have H2 := Lib.hid h2
    clear h2 HQ
    go_wp2
    go_end0
    exact H2.out
  · subst hq
    have C := CC.out.2.2.2.2.2.2.2.2.2.2.2.2.2.2.2.2.1 rfl
    have hlk := look36 HM.out
    clear CC HM
    go_wp2_with fail
    with_reducible refine C.mono ?_
    clear C hlk d1
    intro e w2 h2
    obtain rfl := HQ.out e w2 h2
    have H2 := Lib.hid h2
    clear h2 HQ
    go_wp2
    go_end0
    exact H2.out
  · subst hq
    have C := CC.out.2.2.2.2.2.2.2.2.2.2.2.2.2.2.2.2.2.1 rfl
    have hlk := look37 HM.out
    clear CC HM
    go_wp2_with fail
    with_reducible refine C.mono ?_
    clear C hlk d1
    intro e w2 h2
    obtain rfl := HQ.out e w2 h2
    have H2 := Lib.hid h2
    clear h2 HQ
    go_wp2
    go_end0
    exact H2.out
  · subst hq
    have C := CC.out.2.2.2.2.2.2.2.2.2.2.2.2.2.2.2.2.2.2.1 rfl
    have hlk := look38 HM.out
    clear CC HM
    go_wp2_with fail
    with_reducible refine C.mono ?_
    clear C hlk d1
    intro e w2 h2
    obtain rfl := HQ.out e w2 h2
    have H2 := Lib.hid h2
    clear h2 HQ
    go_wp2
    go_end0
    exact H2.out
  · subst hq
    have C := CC.out.2.2.2.2.2.2.2.2.2.2.2.2.2.2.2.2.2.2.2 rfl
    have hlk := look39 HM.out
    clear CC HM
    go_wp2_with fail
    with_reducible refine C.mono ?_
    clear C hlk d1
    intro e w2 h2
    obtain rfl := HQ.out e w2 h2
    have H2 := Lib.hid h2
    clear h2 HQ
    go_wp2
    go_end0
    exact H2.out

end Go.Proofs.YtikaoikladbdpaaGreat.M2
