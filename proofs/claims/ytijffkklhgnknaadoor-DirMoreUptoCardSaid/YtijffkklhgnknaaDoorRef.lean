/- The reference's functions on bytes, for every argument (bytes of at most 2^45). No other conditions. -/
import Derived.Test.YtijffkklhgnknaaDoorMgRc
import Derived.BigQuiet
import Derived.Deep.QuietTactic
set_option linter.unusedVariables false
namespace Go.Proofs.YtijffkklhgnknaaDoor
open Go.RowKit

/-- A literal list without elements, and bytes behind it. -/
theorem rput_arg (v : Value) (size : Int) (x : Nat) (w : World) (h : wid size = 0) :
    Calls Tryd.prog 49 #[v, .int .i64 size, .int .u64 x] w fun e w' => e = .returned (.tuple #[.slice none 0 0, .int .i64 201]) ∧ w = w' := by
  have h0 : size ≠ 1 ∧ size ≠ 2 ∧ size ≠ 4 ∧ size ≠ 8 := by
    unfold wid at h
    repeat' split at h
    all_goals first | (exfalso; omega) | (refine ⟨?_, ?_, ?_, ?_⟩ <;> assumption)
  have h1 : (size != 1) = true := by rw [bne_iff_ne]; exact h0.1
  have h2 : (size != 2) = true := by rw [bne_iff_ne]; exact h0.2.1
  have h4 : (size != 4) = true := by rw [bne_iff_ne]; exact h0.2.2.1
  have h8 : (size != 8) = true := by rw [bne_iff_ne]; exact h0.2.2.2
  clear h h0
  go_enter Tryd.func49, Tryd.ntmps49
  go_wp2
  go_ret2
  exact ⟨rfl, rfl⟩

theorem div_step (x k : Nat) : ((x / 256 ^ k : Nat) : Int) / 256 = ((x / 256 ^ (k + 1) : Nat) : Int) := by
  rw [Nat.pow_succ, ← Nat.div_div_eq_div_mul]
  omega
theorem byte_mod (x k : Nat) : ((x / 256 ^ k : Nat) : Int) % 256 = ((UInt8.ofNat (x / 256 ^ k)).toNat : Int) := by
  have e : (UInt8.ofNat (x / 256 ^ k)).toNat = x / 256 ^ k % 256 := UInt8.toNat_ofNat' ..
  rw [e]
  omega

theorem byte_self (b : UInt8) : (b.toNat : Int) % 256 = (b.toNat : Int) := by have := b.toNat_lt; omega

set_option maxHeartbeats 1000000 in
theorem rput_go (A : Option Addr) (c : Nat) (l : List UInt8) (k : Nat) (x : Nat) (w : World) (hA : Hol w A l) (hx : x < 18446744073709551616) (hl : l.length ≤ 35184372088832) (hk : 1 ≤ k) (hk8 : k ≤ 8)
    (h : ((k : Int) != 1) = false ∨ ((k : Int) != 1) = true ∧ ((k : Int) != 2) = false ∨ ((k : Int) != 1) = true ∧ ((k : Int) != 2) = true ∧ ((k : Int) != 4) = false ∨ ((k : Int) != 1) = true ∧ ((k : Int) != 2) = true ∧ ((k : Int) != 4) = true ∧ ((k : Int) != 8) = false) :
    Calls Tryd.prog 49 #[.slice A l.length c, .int .i64 k, .int .u64 x] w (BytesPost w (if x / 256 ^ k ≠ 0 then ([], 202) else (l ++ leb x k, 0))) := by
  obtain ⟨i, U⟩ := u8_table
  generalize hR : (if x / 256 ^ k ≠ 0 then (([] : List UInt8), (202 : Int)) else (l ++ leb x k, 0)) = R
  have HR := Lib.hid hR
  clear hR
  have hown0 : ∀ W : World, (W.alloc (.cells #[] 5)).ownsRow W.heap.size 5 1 (.slice (some ⟨W.heap.size, 0, none⟩) 0 0) 0 [] := fun W => World.ownsRow_made W #[] 0 (Nat.le_refl _) (by decide) rfl
  have HO := Lib.hid hown0
  clear hown0
  rcases h with h | ⟨h, h2⟩ | ⟨h, h2, h3⟩ | ⟨h, h2, h3, h4⟩
  all_goals
    go_enter Tryd.func49, Tryd.ntmps49
    go_wp2_with (at_builtin; refine wpList_app _ rfl (.tmp 24) (.tmp 25) _ rfl 5 i U w.heap.size _ 0 [] rfl (HO.out w) A l.length c l rfl rfl (hA.below (below_of_grown (World.grownBy_alloc w _ none))) (by omega) (by simp) ?_; intro v1 w1 hown1 hg1 hat1)
  all_goals
    have hb1 : Below w.heap.size w w1 := (below_of_grown (World.grownBy_alloc w _ none)).grown hg1 (by simp) (fun k hk => ((HO.out w).lt k hk).1)
    have hown2 : w1.ownsRow w.heap.size 5 1 v1 (l.length + 0) (bc (l ++ leb x 0)) := by simpa [leb] using hown1
    clear hown1 hg1 hat1
    go_loopw [2, 8, 9] (fun y s i wr => ∃ j : Nat, j ≤ k ∧ i = .int .i64 j ∧ y = .int .u64 (x / 256 ^ j : Nat) ∧ wr.ownsRow w.heap.size 5 1 s (l.length + j) (bc (l ++ leb x j)) ∧ Below w.heap.size w wr) (fun _ _ i _ => k - (intOf i).toNat)
    case atStart => exact ⟨0, Nat.zero_le _, rfl, by simp, hown2, hb1⟩
    case round =>
      obtain ⟨j, hj, rfl, rfl, hown3, hb3⟩ := hrel
      have hY : x / 256 ^ j < 18446744073709551616 := Nat.lt_of_le_of_lt (Nat.div_le_self _ _) hx
      have hd1 := div_step x j
      have hm1 := byte_mod x j
      by_cases hlt : j < k
      · generalize hy : x / 256 ^ j = y at *
        have HD := Lib.hid hd1
        have HM := Lib.hid hm1
        have HY := Lib.hid hy
        clear hd1 hm1 hy
        go_wp2_with (at_builtin; refine wpList_app _ rfl _ _ _ rfl 5 i U w.heap.size _ (l.length + j) _ rfl (hown3.alloc _) (some ⟨wr.heap.size, 0, none⟩) 1 1 [UInt8.ofNat y] rfl rfl (hol_one _ _ _ _ (by exact HM.out)) (by omega) (by have := hb3.size; simp; omega) ?_; intro v4 w4 hown4 hg4 hat4)
        have hb4 : Below w.heap.size w w4 := (hb3.alloc hb3.size _).grown hg4 (by have := hb3.size; simp; omega) (fun q hq => (hown3.lt q hq).1)
        have hown5 : w4.ownsRow w.heap.size 5 1 v4 (l.length + (j + 1)) (bc (l ++ leb x (j + 1))) := by
          rw [leb_succ, HY.out, ← List.append_assoc, bc_app]
          exact hown4
        clear hown4 hg4 hat4
        go_roundw
        case rel => exact ⟨j + 1, by omega, by go_num, by rw [← HD.out], hown5, hb4⟩
        case measure => simp [intOf]; omega
      · have hjk : j = k := by omega
        subst hjk
        clear hd1 hm1
        by_cases hz : x / 256 ^ j = 0
        · have hzz : ((x / 256 ^ j : Nat) : Int) = 0 := by rw [hz]; rfl
          have hR : R = (l ++ leb x j, 0) := by rw [← HR.out, if_neg (by simp [hz])]
          subst hR
          generalize hy : x / 256 ^ j = y at *
          subst hz
          have HY := Lib.hid hy
          clear hzz hy
          go_wp2
          go_ret2
          refine ⟨_, rfl, ?_, hb3⟩
          show wr.ownsRow _ _ _ _ (l ++ leb x j).length _
          rw [List.length_append, leb_len]
          exact hown3
        · have hR : R = ([], 202) := by rw [← HR.out, if_pos hz]
          subst hR
          generalize hy : x / 256 ^ j = y at *
          have HY := Lib.hid hy
          have hyz : (0 : Int) < (y : Int) := by omega
          clear hy
          go_wp2
          go_ret2
          exact ⟨_, rfl, World.ownsRow_nil _ _ _ _, hb3⟩
end Go.Proofs.YtijffkklhgnknaaDoor
