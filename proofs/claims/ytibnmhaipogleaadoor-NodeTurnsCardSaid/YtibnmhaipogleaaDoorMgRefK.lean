/- The reference's constants. No conditions. -/
import Derived.Test.YtibnmhaipogleaaDoorRot
import Derived.Test.YtibnmhaipogleaaDoorRows2
import Derived.Test.YtibnmhaipogleaaDoorMgZeros
import Derived.Deep.AppendLies
set_option linter.unusedVariables false
namespace Go.Proofs.YtibnmhaipogleaaDoor
open Go.RowKit

set_option maxRecDepth 20000 in
set_option maxHeartbeats 1000000 in
theorem k_any (w : World) : Calls Tryd.prog 53 #[] w fun e w' => ∃ g, e = .returned (.slice (some ⟨g, 0, none⟩) 64 64) ∧ Row w' g 22 (arr 64 kk) ∧ w.heap.size ≤ g ∧ Below w.heap.size w w' := by
  go_enter Tryd.func53, Tryd.ntmps53
  go_wp2
  go_ret
  refine ⟨w.heap.size, rfl, ?_, Nat.le_refl _, (Below.refl _ _).alloc (Nat.le_refl _) _⟩
  have key : ∀ C : Array Value, C = (arr 64 kk).toArray → Row (w.alloc (.cells C 22)) w.heap.size 22 (arr 64 kk) := by
    rintro C rfl
    exact Row.made _ _ _
  exact key _ (by kernel_rfl)
end Go.Proofs.YtibnmhaipogleaaDoor
/- The reference's padded message: for all bytes up to 2^49. No conditions. -/
set_option linter.unusedVariables false
namespace Go.Proofs.YtibnmhaipogleaaDoor
open Go.RowKit

theorem lenv_own {w : World} {base : Nat} {e : TypeId} {size n : Nat} {v : Value} {xs : List Value} (h : w.ownsRow base e size v n xs) : (match v with | .slice _ m _ => m | _ => 0) = n := by
  rcases h.2 with ⟨rfl, rfl⟩ | ⟨g, cap, cur, rfl, _⟩ <;> rfl
def lnv : Value → Nat
  | .slice _ n _ => n
  | _ => 0
theorem lnv_own {w : World} {base : Nat} {e : TypeId} {size n : Nat} {v : Value} {xs : List Value} (h : w.ownsRow base e size v n xs) : lnv v = n := by
  rcases h.2 with ⟨rfl, rfl⟩ | ⟨g, cap, cur, rfl, _⟩ <;> rfl

/-- The number that is left behind i bytes, and the byte that goes next. -/
def lft (x i : Nat) : Nat := x * 256 ^ i % 18446744073709551616
theorem lft_zero (x : Nat) (h : x < 18446744073709551616) : lft x 0 = x := by
  unfold lft
  rw [Nat.pow_zero, Nat.mul_one, Nat.mod_eq_of_lt h]
theorem lft_lt (x i : Nat) : lft x i < 18446744073709551616 := Nat.mod_lt _ (by decide)
theorem lft_succ (x i : Nat) : lft x i * 256 % 18446744073709551616 = lft x (i + 1) := by
  unfold lft
  rw [Nat.mod_mul_mod, Nat.pow_succ, Nat.mul_assoc]
theorem lft_byte (x i : Nat) (h : i < 8) : lft x i / 72057594037927936 % 256 = x / 256 ^ (7 - i) % 256 := by
  unfold lft
  have h8 : i = 0 ∨ i = 1 ∨ i = 2 ∨ i = 3 ∨ i = 4 ∨ i = 5 ∨ i = 6 ∨ i = 7 := by omega
  rcases h8 with rfl | rfl | rfl | rfl | rfl | rfl | rfl | rfl
  all_goals
    simp only [Nat.reducePow, Nat.reduceSub, Nat.mul_one, Nat.div_one]
    omega

set_option maxHeartbeats 400000 in
theorem padded_any (A : Option Addr) (c : Nat) (l : List UInt8) (w : World) (hA : Hol w A l) (hlen : l.length ≤ 70368744177664) :
    Calls Tryd.prog 54 #[.slice A l.length c] w fun e w' => ∃ v, e = .returned v ∧ w'.ownsRow w.heap.size 5 1 v (l.length + (9 + zer l.length)) (bc (l ++ padB l.length)) ∧ Below w.heap.size w w' := by
  obtain ⟨i, UT⟩ := pd_table
  obtain ⟨L, hL⟩ : ∃ L, L = l.length := ⟨_, rfl⟩
  rw [← hL] at hlen ⊢
  obtain ⟨z, hz⟩ : ∃ z, z = zer L := ⟨_, rfl⟩
  rw [← hz]
  have hz64 : z < 64 := hz ▸ zer_lt L
  have hzE : (L + 1 + z) % 64 = 56 := by rw [hz]; unfold zer; omega
  have hzN : ∀ k, k < z → (L + 1 + k) % 64 ≠ 56 := by intro k hk; rw [hz] at hk; unfold zer at hk; omega
  have HL := Lib.hid hL
  have HZ := Lib.hid hz
  have HE := Lib.hid hzE
  have HN := Lib.hid hzN
  have HA := Lib.hid hA
  clear hL hz hzE hzN hA
  have hown0 := Lib.hid (p := (w.alloc (.cells #[] 5)).ownsRow w.heap.size 5 1 (.slice (some ⟨w.heap.size, 0, none⟩) 0 0) 0 []) (World.ownsRow_made w #[] 0 (Nat.le_refl _) (by decide) rfl)
  go_enter Tryd.func54, Tryd.ntmps54
  go_wp2_with (first
    | (at_builtin; refine wpList_app _ rfl (.tmp 6) (.tmp 7) 29 rfl 5 i UT w.heap.size (.slice (some ⟨w.heap.size, 0, none⟩) 0 0) 0 [] rfl hown0.out A L c l rfl HL.out (HA.out.below ((Below.refl _ _).alloc (Nat.le_refl _) _)) (by omega) (by simp) ?_; intro v1 w1 hown1 hg1 hat1)
    | (at_builtin; refine wpList_app _ rfl (.tmp 9) (.tmp 10) 29 rfl 5 i UT w.heap.size v1 (0 + L) ([] ++ bc l) rfl (hown1.alloc _) (some ⟨w1.heap.size, 0, none⟩) 1 1 [128] rfl rfl (pd_one _ _ _ _ rfl) (by omega) (by have := hg1.size; simp at this ⊢; omega) ?_; intro v2 w2 hown2 hg2 hat2))
  have hba : Below w.heap.size w (w.alloc (.cells #[] 5)) := (Below.refl _ _).alloc (Nat.le_refl _) _
  have hb1 : Below w.heap.size w w1 := hba.grown hg1 hba.size (fun k hk => by simp [Value.ownBlock] at hk; omega)
  have hb2 : Below w.heap.size w w2 := (hb1.alloc hb1.size _).grown hg2 (by have := hb1.size; simp; omega) (fun k hk => (hown1.lt k hk).1)
  have hown3 : w2.ownsRow w.heap.size 5 1 v2 (L + 1) (bc (l ++ [128])) := by
    rw [bc_app]
    simpa using hown2
  clear hown1 hg1 hat1 hown2 hg2 hat2 hba hb1
  go_loopw [3] (fun v wr => ∃ k : Nat, k ≤ z ∧ wr.ownsRow w.heap.size 5 1 v (L + 1 + k) (bc (l ++ [128] ++ List.replicate k 0)) ∧ Below w.heap.size w wr) (fun v _ => L + 1 + z - lnv v)
  case atStart => exact ⟨0, by omega, by simpa using hown3, hb2⟩
  case round =>
    obtain ⟨k, hk, hown, hbel⟩ := hrel
    clear hown3 hb2
    obtain ⟨M, hM⟩ : ∃ M, M = L + 1 + k := ⟨_, rfl⟩
    rw [← hM] at hown
    obtain ⟨X, hX⟩ : ∃ X, X = l ++ [128] ++ List.replicate k 0 := ⟨_, rfl⟩
    rw [← hX] at hown
    obtain ⟨g, cap, rfl, _, _⟩ := hown.form (by omega)
    have hM50 : M ≤ 70368744177729 := by omega
    have HX := Lib.hid hX
    clear hX
    by_cases hlt : k < z
    · have hne := HN.out k hlt
      rw [← hM] at hne
      have hneI : ((M : Int) % 64 != 56) = true := by simp; omega
      have HM := Lib.hid hM
      clear hM hne
      go_wp2_with (at_builtin; refine wpList_app _ rfl (.tmp 16) (.tmp 17) 29 rfl 5 i UT w.heap.size _ M (bc X) rfl (hown.alloc _) (some ⟨wr.heap.size, 0, none⟩) 1 1 [0] rfl rfl (pd_one _ _ _ _ rfl) (by omega) (by have := hbel.size; simp; omega) ?_; intro v3 w3 hown3 hg3 hat3)
      have hb3 : Below w.heap.size w w3 := (hbel.alloc hbel.size _).grown hg3 (by have := hbel.size; simp; omega) (fun k hk => (hown.lt k hk).1)
      have hnext : w3.ownsRow w.heap.size 5 1 v3 (L + 1 + (k + 1)) (bc (l ++ [128] ++ List.replicate (k + 1) 0)) := by
        have e : l ++ [128] ++ List.replicate (k + 1) 0 = X ++ [0] := by rw [HX.out, List.replicate_succ', List.append_assoc _ (List.replicate k 0)]
        rw [e, bc_app, show L + 1 + (k + 1) = M + 1 by have := HM.out; omega]
        exact hown3
      have hl3 := lnv_own hown3
      have hM' := HM.out
      clear hown3 hg3 hat3 hown hbel
      have HN3 := Lib.hid hnext
      have HB3 := Lib.hid hb3
      clear hnext hb3
      go_wp2
      go_roundw
      case rel => exact ⟨k + 1, by omega, HN3.out, HB3.out⟩
      case measure => (rw [show lnv v3 = M + 1 from hl3]; simp [lnv]; omega)
    · obtain rfl : k = z := by omega
      have hne := HE.out
      rw [← hM] at hne
      have hneI : ((M : Int) % 64 != 56) = false := by simp; omega
      have HM := Lib.hid hM
      clear hM hne
      go_wp2
      obtain ⟨wo, rfl⟩ : ∃ wo : World, wo = wr := ⟨_, rfl⟩
      go_loopw [3, 4, 5] (fun v nv iv wr => ∃ j : Nat, j ≤ 8 ∧ iv = .int .i64 j ∧ nv = .int .u64 (lft (8 * L) j) ∧ wr.ownsRow w.heap.size 5 1 v (M + j) (bc (X ++ bez (8 * L) j)) ∧ Below w.heap.size w wr) (fun _ _ i _ => 8 - (intOf i).toNat)
      case atStart => exact ⟨0, by omega, rfl, by rw [lft_zero _ (by omega)]; simp [Int.mul_comm], by simpa [bez] using hown, hbel⟩
      case round =>
        obtain ⟨j, hj, rfl, rfl, hown', hbel'⟩ := hrel
        clear hown hbel
        by_cases hlt8 : j < 8
        · obtain ⟨y, hy⟩ : ∃ y, y = lft (8 * L) j := ⟨_, rfl⟩
          have hb := lft_byte (8 * L) j hlt8
          have hs := lft_succ (8 * L) j
          have hyl := lft_lt (8 * L) j
          rw [← hy] at hb hs hyl ⊢
          obtain ⟨y2, hy2⟩ : ∃ y2, y2 = lft (8 * L) (j + 1) := ⟨_, rfl⟩
          rw [← hy2] at hs
          obtain ⟨bb, hbb⟩ : ∃ bb, bb = UInt8.ofNat (8 * L / 256 ^ (7 - j)) := ⟨_, rfl⟩
          have hz : (y : Int) / 72057594037927936 = (bb.toNat : Int) := by
            rw [hbb, u8_toNat, ← hb]
            omega
          have hsI : ((y : Int) * 256) % 18446744073709551616 = (y2 : Int) := by omega
          have hsW : IntKind.u64.wrap ((y : Int) * 256) = (y2 : Int) := by
            simp [IntKind.wrap, IntKind.bits, IntKind.signed]
            exact hsI
          obtain ⟨Y, hY⟩ : ∃ Y, Y = X ++ bez (8 * L) j := ⟨_, rfl⟩
          rw [← hY] at hown'
          have HY := Lib.hid hY
          have HY2 := Lib.hid hy2
          have HBB := Lib.hid hbb
          have HZ8 := Lib.hid hz
          clear hY hy hb hs hy2 hbb hz
          go_wp2_with (at_builtin; refine wpList_app _ rfl (.tmp 27) (.tmp 31) 29 rfl 5 i UT w.heap.size _ (M + j) (bc Y) rfl (hown'.alloc _) (some ⟨wr.heap.size, 0, none⟩) 1 1 [bb] rfl rfl (pd_one _ _ _ _ HZ8.out) (by omega) (by have := hbel'.size; simp; omega) ?_; intro v3 w3 hown3 hg3 hat3)
          have hb3 : Below w.heap.size w w3 := (hbel'.alloc hbel'.size _).grown hg3 (by have := hbel'.size; simp; omega) (fun k hk => (hown'.lt k hk).1)
          have hnext : w3.ownsRow w.heap.size 5 1 v3 (M + (j + 1)) (bc (X ++ bez (8 * L) (j + 1))) := by
            rw [bez_succ, ← List.append_assoc, ← HY.out, ← HBB.out, bc_app]
            exact hown3
          clear hown3 hg3 hat3 hown' hbel'
          have HN3 := Lib.hid hnext
          have HB3 := Lib.hid hb3
          clear hnext hb3
          go_wp2
          go_roundw
          case rel => exact ⟨j + 1, by omega, by go_num, by rw [HY2.out], HN3.out, HB3.out⟩
          case measure => simp [intOf]; omega
        · obtain rfl : j = 8 := by omega
          go_wp2
          go_ret
          refine ⟨_, rfl, ?_, hbel'⟩
          have e1 : L + (9 + k) = M + 8 := by have := HM.out; omega
          have e2 : l ++ padB L = X ++ bez (8 * L) 8 := by
            unfold padB
            rw [HX.out, ← HZ.out]
            simp only [List.append_assoc]
          rw [e1, e2]
          exact hown'
end Go.Proofs.YtibnmhaipogleaaDoor
