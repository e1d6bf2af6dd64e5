/- Numbers put behind bytes by the reference, under names. Conditions: those named. -/
import Derived.Test.YtcebbpdclgejdaaRPut
import Derived.Test.YtcebbpdclgejdaaKept
set_option linter.unusedVariables false
namespace Go.Proofs.Ytcebbpdclgejdaa
open Go.RowKit

theorem rput4' (A : Option Addr) (c n : Nat) (l : List UInt8) (x : Nat) (hn : n = l.length) (w : World) (hA : Hol w A l) (hx : x < 4294967296) (hl : l.length ≤ 100) :
    Calls Try.prog 24 #[.slice A n c, .int .i64 4, .int .u64 x] w fun e w' => ∃ A' c' m, e = .returned (.tuple #[.slice A' m c', .int .i64 0]) ∧ Hid (m = l.length + 4) ∧ Hid (Hol w' A' (l ++ leb x 4)) ∧ Hid (Below w.heap.size w w') := by
  subst hn
  refine (rput4 A c l x w hA hx (by omega)).mono ?_
  rintro e w' ⟨v, rfl, hown, hb⟩
  obtain ⟨hm, A', c', rfl, _, _, hH⟩ := own_form hown
  exact ⟨A', c', _, rfl, hm.symm, hH, hb⟩
theorem rput8' (A : Option Addr) (c n : Nat) (l : List UInt8) (x : Nat) (hn : n = l.length) (w : World) (hA : Hol w A l) (hx : x < 18446744073709551616) (hl : l.length ≤ 100) :
    Calls Try.prog 24 #[.slice A n c, .int .i64 8, .int .u64 x] w fun e w' => ∃ A' c' m, e = .returned (.tuple #[.slice A' m c', .int .i64 0]) ∧ Hid (m = l.length + 8) ∧ Hid (Hol w' A' (l ++ leb x 8)) ∧ Hid (Below w.heap.size w w') := by
  subst hn
  refine (rput8 A c l x w hA hx (by omega)).mono ?_
  rintro e w' ⟨v, rfl, hown, hb⟩
  obtain ⟨hm, A', c', rfl, _, _, hH⟩ := own_form hown
  exact ⟨A', c', _, rfl, hm.symm, hH, hb⟩
end Go.Proofs.Ytcebbpdclgejdaa
