/- The reference's numbers as bytes: what each call leaves. Conditions: those named. -/
import Derived.Test.YtcebbpdclgejdaaApp
import Derived.Test.YtcebbpdclgejdaaPlain
import Derived.Test.YtcebbpdclgejdaaRBy
import Derived.BigQuiet
import Derived.Deep.QuietTactic
set_option linter.unusedVariables false
namespace Go.Proofs.Ytcebbpdclgejdaa
open Go.RowKit

theorem hol_b (w : World) (e : TypeId) (x : UInt8) (z : Int) (hz : z = (x.toNat : Int)) : Hol (w.alloc (.cells #[.int .u8 z] e)) (some ⟨w.heap.size, 0, none⟩) [x] := by
  subst hz
  exact hol_byte (made_byte w e _)
theorem div_stp (x k : Nat) : ((x / 256 ^ k : Nat) : Int) / 256 = ((x / 256 ^ (k + 1) : Nat) : Int) := by
  rw [Nat.pow_succ, ← Nat.div_div_eq_div_mul]
  omega
theorem byte_md (x k : Nat) : ((x / 256 ^ k : Nat) : Int) % 256 = ((UInt8.ofNat (x / 256 ^ k)).toNat : Int) := by
  have e : (UInt8.ofNat (x / 256 ^ k)).toNat = x / 256 ^ k % 256 := UInt8.toNat_ofNat' ..
  rw [e]
  omega

theorem byte_slf (b : UInt8) : (b.toNat : Int) % 256 = (b.toNat : Int) := by have := b.toNat_lt; omega

set_option maxHeartbeats 1000000 in
theorem rput_app (A : Option Addr) (c : Nat) (l : List UInt8) (k : Nat) (x : Nat) (w : World) (hA : Hol w A l) (hx : x < 18446744073709551616) (hx0 : x / 256 ^ k = 0) (hl : l.length ≤ 35184372088832) (hk : 1 ≤ k) (hk8 : k ≤ 8)
    (h : ((k : Int) != 1) = false ∨ ((k : Int) != 1) = true ∧ ((k : Int) != 2) = false ∨ ((k : Int) != 1) = true ∧ ((k : Int) != 2) = true ∧ ((k : Int) != 4) = false ∨ ((k : Int) != 1) = true ∧ ((k : Int) != 2) = true ∧ ((k : Int) != 4) = true ∧ ((k : Int) != 8) = false) :
    Calls Try.prog 24 #[.slice A l.length c, .int .i64 k, .int .u64 x] w fun e w' => ∃ v, e = .returned (.tuple #[v, .int .i64 0]) ∧ w'.ownsRow w.heap.size 5 1 v (l.length + k) (bc (l ++ leb x k)) ∧ Below w.heap.size w w' := by
  obtain ⟨i, U⟩ := u8_tab
  have HX0 := Lib.hid hx0
  clear hx0
  have hown0 : ∀ W : World, (W.alloc (.cells #[] 5)).ownsRow W.heap.size 5 1 (.slice (some ⟨W.heap.size, 0, none⟩) 0 0) 0 [] := fun W => World.ownsRow_made W #[] 0 (Nat.le_refl _) (by decide) rfl
  have HO := Lib.hid hown0
  clear hown0
  rcases h with h | ⟨h, h2⟩ | ⟨h, h2, h3⟩ | ⟨h, h2, h3, h4⟩
  all_goals
    go_enter Try.func24, Try.ntmps24
    go_wp2_with (at_builtin; refine wpList_app _ rfl (.tmp 24) (.tmp 25) _ rfl 5 i U w.heap.size _ 0 [] rfl (HO.out w) A l.length c l rfl rfl (hA.below (below_of_grown (World.grownBy_alloc w _ none))) (by omega) (by simp) ?_; intro v1 w1 hown1 hg1 hat1)
  all_goals
    have hb1 : Below w.heap.size w w1 := (below_of_grown (World.grownBy_alloc w _ none)).grown hg1 (by simp) (fun k hk => ((HO.out w).lt k hk).1)
    have hown2 : w1.ownsRow w.heap.size 5 1 v1 (l.length + 0) (bc (l ++ leb x 0)) := by simpa [leb] using hown1
    clear hown1 hg1 hat1
    go_loopw [2, 8, 9] (fun y s i wr => ∃ j : Nat, j ≤ k ∧ i = .int .i64 j ∧ y = .int .u64 (x / 256 ^ j : Nat) ∧ wr.ownsRow w.heap.size 5 1 s (l.length + j) (bc (l ++ leb x j)) ∧ Below w.heap.size w wr) (fun _ _ i _ => k - (intOf i).toNat)
    case atStart => exact ⟨0, Nat.zero_le _, rfl, by simp, hown2, hb1⟩
    case round =>
      obtain ⟨j, hj, rfl, rfl, hown3, hb3⟩ := hrel
      have hY : x / 256 ^ j < 18446744073709551616 := Nat.lt_of_le_of_lt (Nat.div_le_self _ _) hx
      have hd1 := div_stp x j
      have hm1 := byte_md x j
      by_cases hlt : j < k
      · generalize hy : x / 256 ^ j = y at *
        have HD := Lib.hid hd1
        have HM := Lib.hid hm1
        have HY := Lib.hid hy
        clear hd1 hm1 hy
        go_wp2_with (at_builtin; refine wpList_app _ rfl _ _ _ rfl 5 i U w.heap.size _ (l.length + j) _ rfl (hown3.alloc _) (some ⟨wr.heap.size, 0, none⟩) 1 1 [UInt8.ofNat y] rfl rfl (hol_b _ _ _ _ (by exact HM.out)) (by omega) (by have := hb3.size; simp; omega) ?_; intro v4 w4 hown4 hg4 hat4)
        have hb4 : Below w.heap.size w w4 := (hb3.alloc hb3.size _).grown hg4 (by have := hb3.size; simp; omega) (fun q hq => (hown3.lt q hq).1)
        have hown5 : w4.ownsRow w.heap.size 5 1 v4 (l.length + (j + 1)) (bc (l ++ leb x (j + 1))) := by
          rw [leb_succ, HY.out, ← List.append_assoc, bc_app]
          exact hown4
        clear hown4 hg4 hat4
        go_roundw
        case rel => exact ⟨j + 1, by omega, by go_num, by rw [← HD.out], hown5, hb4⟩
        case measure => simp [intOf]; omega
      · have hjk : j = k := by omega
        subst hjk
        clear hd1 hm1
        have hz := HX0.out
        have hzz : ((x / 256 ^ j : Nat) : Int) = 0 := by rw [hz]; rfl
        generalize hy : x / 256 ^ j = y at *
        subst hz
        have HY := Lib.hid hy
        clear hzz hy
        go_wp2
        go_ret2
        exact ⟨_, rfl, hown3, hb3⟩

theorem rput4 (A : Option Addr) (c : Nat) (l : List UInt8) (x : Nat) (w : World) (hA : Hol w A l) (hx : x < 4294967296) (hl : l.length ≤ 35184372088832) :
    Calls Try.prog 24 #[.slice A l.length c, .int .i64 4, .int .u64 x] w fun e w' => ∃ v, e = .returned (.tuple #[v, .int .i64 0]) ∧ w'.ownsRow w.heap.size 5 1 v (l.length + 4) (bc (l ++ leb x 4)) ∧ Below w.heap.size w w' :=
  rput_app A c l 4 x w hA (by omega) (by omega) hl (by omega) (by omega) (.inr (.inr (.inl ⟨rfl, rfl, rfl⟩)))
theorem rput8 (A : Option Addr) (c : Nat) (l : List UInt8) (x : Nat) (w : World) (hA : Hol w A l) (hx : x < 18446744073709551616) (hl : l.length ≤ 35184372088832) :
    Calls Try.prog 24 #[.slice A l.length c, .int .i64 8, .int .u64 x] w fun e w' => ∃ v, e = .returned (.tuple #[v, .int .i64 0]) ∧ w'.ownsRow w.heap.size 5 1 v (l.length + 8) (bc (l ++ leb x 8)) ∧ Below w.heap.size w w' :=
  rput_app A c l 8 x w hA hx (by omega) hl (by omega) (by omega) (.inr (.inr (.inr ⟨rfl, rfl, rfl, rfl⟩)))

end Go.Proofs.Ytcebbpdclgejdaa
