/- Package grant: flags out of bytes; what a cursor takes; the super that a block tells. Conditions: those named. -/
import Derived.Test.YtcebbpdclgejdaaGa
import Derived.Test.YtcebbpdclgejdaaCur
import Derived.Test.YtcebbpdclgejdaaRNum
set_option linter.unusedVariables false
set_option maxRecDepth 20000
namespace Go.Proofs.Ytcebbpdclgejdaa
open Go.RowKit

section
variable {P : Program} {w : World} {ops : Array Oper} {rest : List Oper} {o : Oper} {a : Act} {Q : Exit → Act → World → Prop}
theorem shr_fact (X b : Nat) : (X : Int).fdiv (2 ^ b) = ((X / 2 ^ b : Nat) : Int) := by
  have e : (2 : Int) ^ b = ((2 ^ b : Nat) : Int) := by simp
  rw [e, Int.fdiv_eq_ediv_of_nonneg _ (Int.natCast_nonneg _)]
  exact (Int.natCast_ediv X (2 ^ b)).symm
theorem wp_shr8 (hgd : o.guard = none) (t t2 : TypeId) (x y : Operand) (ho : o.op = .binOp .shr t x y t2) (X : Nat) (hx : a.eval x = .int .u8 (X : Int)) (k2 : IntKind) (b r : Nat) (hy : a.eval y = .int k2 (b : Int)) (hb : b < 8) (hr : X / 2 ^ b = r)
    (h : wpList P ops Q rest (a.put o.dst (.int .u8 (r : Int))) w) : wpList P ops Q (o :: rest) a w := by
  refine wpList_plain hgd fun K hK => ?_
  have hm : min b 8 = b := by omega
  have hs := shr_fact X b
  rw [hr] at hs
  have hneg : ¬ ((b : Int) < 0) := by omega
  unfold Oper.wp execOp
  simp only [ho, hx, hy]
  simp only [go_sem, Op.shift, IntKind.bits, Int.toNat_natCast, hneg, hm, hs, if_false]
  simp [hs, hm]
  exact hK _ _ h
theorem and1 : ∀ q : Fin 256, bits .and .u8 (q.val : Int) 1 = ((q.val % 2 : Nat) : Int) := by decide +kernel
theorem wp_and1 (hgd : o.guard = none) (t t2 : TypeId) (x y : Operand) (ho : o.op = .binOp .and t x y t2) (X r : Nat) (hx : a.eval x = .int .u8 (X : Int)) (hX : X < 256) (hy : a.eval y = .int .u8 1) (hr : X % 2 = r)
    (h : wpList P ops Q rest (a.put o.dst (.int .u8 (r : Int))) w) : wpList P ops Q (o :: rest) a w := by
  refine wpList_plain hgd fun K hK => ?_
  have h1 := and1 ⟨X, hX⟩
  dsimp only at h1
  rw [hr] at h1
  unfold Oper.wp execOp
  simp only [ho, hx, hy]
  simp [go_sem, h1]
  exact hK _ _ h
theorem rem2_facts (m r : Nat) (hm : m < 256) (hr : m % 2 = r) : (m : Int) % 2 = (r : Int) ∧ Int.tmod (m : Int) 2 = (r : Int) ∧ IntKind.u8.wrap (r : Int) = (r : Int) ∧ (r : Int) % 256 = (r : Int) := by
  have h1 : (m : Int) % 2 = (r : Int) := by omega
  exact ⟨h1, by rw [Int.tmod_eq_emod_of_nonneg (Int.natCast_nonneg m)]; exact h1, by simp [IntKind.wrap, IntKind.bits, IntKind.signed]; omega, by omega⟩
theorem wp_rem2 (hgd : o.guard = none) (t t2 : TypeId) (x y : Operand) (ho : o.op = .binOp .rem t x y t2) (X r : Nat) (hx : a.eval x = .int .u8 (X : Int)) (hX : X < 256) (hy : a.eval y = .int .u8 2) (hr : X % 2 = r)
    (h : wpList P ops Q rest (a.put o.dst (.int .u8 (r : Int))) w) : wpList P ops Q (o :: rest) a w := by
  refine wpList_plain hgd fun K hK => ?_
  obtain ⟨h1, h2, h3, h4⟩ := rem2_facts X r hX hr
  unfold Oper.wp execOp
  simp only [ho, hx, hy]
  clear hX hr
  simp [go_sem, h1, h2, h3, h4]
  exact hK _ _ h
theorem eq1_fact (r : Nat) : ((r : Int) == 1) = (r == 1) := by
  rw [Bool.eq_iff_iff]
  simp
  omega
theorem wp_eq1 (hgd : o.guard = none) (t t2 : TypeId) (x y : Operand) (ho : o.op = .binOp .eql t x y t2) (ht : P.underlying t = some (.int .u8)) (r : Nat) (z : Bool) (hx : a.eval x = .int .u8 (r : Int)) (hy : a.eval y = .int .u8 1) (hz : (r == 1) = z)
    (h : wpList P ops Q rest (a.put o.dst (.bool z)) w) : wpList P ops Q (o :: rest) a w := by
  refine wpList_plain hgd fun K hK => ?_
  have h1 := eq1_fact r
  rw [hz] at h1
  unfold Oper.wp execOp
  simp only [ho, hx, hy]
  simp [go_sem, h1]
  exact hK _ _ h
end
theorem ub_def (x : UInt8) (b r r2 : Nat) (hr : x.toNat / 2 ^ b = r) (hr2 : r % 2 = r2) : (r2 == 1) = ub x b := by
  unfold ub
  rw [hr, hr2]
set_option maxHeartbeats 4000000 in
theorem unpackbits_any (g o m n cap d : Nat) (t : TypeId) (B : Nat → UInt8) (C : Nat → List Value) (hn : 8 * m = n) (hC : ∀ i, i < n → (C i).set (o + i) (.bool (ub (B (i / 8)) (i % 8))) = C (i + 1)) (hz : ∀ i, i < n → ∃ z, (C i)[o + i]? = some (.bool z)) (hm : m ≤ 32)
    (A : Option Addr) (w : World) (hA : Hol w A (lst m B)) (hAg : ∀ q off, A = some ⟨q, off, none⟩ → q ≠ g) (hr : Row w g t (C 0)) :
    Calls Try.prog 28 #[.slice (some ⟨g, o, none⟩) n d, .slice A m cap] w fun e w' => e = .returned (.tuple #[]) ∧ Hid (Row w' g t (C n)) ∧ Hid (w.grownBy w' (some g)) := by
  have HA := Lib.hid hA
  have HAG := Lib.hid hAg
  have HN := Lib.hid hn
  have HC := Lib.hid hC
  have HZ := Lib.hid hz
  have HM := Lib.hid hm
  have HR0 := Lib.hid (p := Row w g t (C (8 * 0))) hr
  clear hA hAg hn hC hz hm hr
  go_enter Try.func28, Try.ntmps28
  go_wp2
  go_loopw [9] (fun y wr => ∃ k : Nat, Hid (k ≤ m) ∧ y = .int .i64 (k : Int) ∧ Hid (Row wr g t (C (8 * k))) ∧ Hid (w.grownBy wr (some g))) (fun y _ => 32 - (intOf y).toNat)
  case atStart => exact ⟨0, Lib.hid (by omega), rfl, HR0, Lib.hid ⟨rfl, rfl, rfl, Nat.le_refl _, fun _ _ _ => rfl⟩⟩
  case round =>
    clear HR0
    obtain ⟨k, HK, rfl, HR, HG⟩ := hrel
    have hkw : IntKind.i64.wrap ((k : Int) + 1) = (k : Int) + 1 := by rw [IntKind.wrap_i64]; have := HM.out; have := HK.out; omega
    by_cases hk : k < m
    · have hki : (k : Int) < (m : Int) := by omega
      have hk0 : (0 : Int) ≤ (k : Int) := by omega
      have HKL := Lib.hid hk
      have hAk := HA.out.grown HG.out (fun q off e e2 => HAG.out q off e (by injection e2))
      obtain ⟨ga, oa, hAe, _, hc⟩ := hAk.at_ (j := k) (by rw [lst_len]; exact hk)
      have hbk : (lst m B)[k]'(by rw [lst_len]; exact hk) = B k := by
        have h1 : (lst m B)[k]? = some (B k) := lst_get _ hk
        rw [List.getElem?_eq_getElem (by rw [lst_len]; exact hk)] at h1
        injection h1
      rw [hbk] at hc
      subst hAe
      obtain ⟨X, hX⟩ : ∃ X, (B k).toNat = X := ⟨_, rfl⟩
      rw [hX] at hc
      have HX := Lib.hid (p := (B k).toNat = X ∧ X < 256) ⟨hX, by rw [← hX]; exact (B k).toNat_lt⟩
      have h8k : IntKind.i64.wrap (8 * (k : Int)) = ((8 * k : Nat) : Int) := by rw [IntKind.wrap_i64]; have := HM.out; omega
      obtain ⟨p0, hp0⟩ : ∃ p0, 8 * k = p0 := ⟨_, rfl⟩
      rw [hp0] at h8k
      have HP0 := Lib.hid hp0
      have HR1 := Lib.hid (p := Row wr g t (C (p0 + 0))) (by rw [Nat.add_zero, ← hp0]; exact HR.out)
      clear hk hp0 hbk hAk hX HR
      go_wp2
      go_loopw [14] (fun y wr2 => ∃ b : Nat, b ≤ 8 ∧ y = .int .i64 (b : Int) ∧ Hid (Row wr2 g t (C (p0 + b))) ∧ Hid (w.grownBy wr2 (some g))) (fun y _ => 8 - (intOf y).toNat)
      case atStart => exact ⟨0, by omega, rfl, HR1, HG⟩
      case round =>
        clear HR1 HG hc
        obtain ⟨b, hb, rfl, HR, HG⟩ := hrel
        have hbw : IntKind.i64.wrap ((b : Int) + 1) = (b : Int) + 1 := by rw [IntKind.wrap_i64]; omega
        by_cases hb8 : b < 8
        · have hbi : (b : Int) < 8 := by omega
          have hb0 : (0 : Int) ≤ (b : Int) := by omega
          obtain ⟨p, hp⟩ : ∃ p, p0 + b = p := ⟨_, rfl⟩
          have hpw : IntKind.i64.wrap ((p0 : Int) + (b : Int)) = (p : Int) := by rw [IntKind.wrap_i64]; have := HM.out; have := HP0.out; have := HKL.out; omega
          have hpn : (p : Int) < (n : Int) := by have := HN.out; have := HP0.out; have := HKL.out; omega
          have hpn' : p < n := by omega
          have hp0' : (0 : Int) ≤ (p : Int) := by omega
          obtain ⟨z0, hz0⟩ := HZ.out p hpn'
          rw [hp] at HR
          have cz : wr.cell? ⟨g, o + p, none⟩ = some (.bool z0) := by rw [HR.out.cell, hz0]
          have fz := HR.out.free (o + p)
          obtain ⟨r, hr⟩ : ∃ r, X / 2 ^ b = r := ⟨_, rfl⟩
          obtain ⟨r2, hr2⟩ : ∃ r2, r % 2 = r2 := ⟨_, rfl⟩
          obtain ⟨z, hzz⟩ : ∃ z, ub (B k) b = z := ⟨_, rfl⟩
          have hrX : r < 256 := Nat.lt_of_le_of_lt (by rw [← hr]; exact Nat.div_le_self _ _) HX.out.2
          have hzr : (r2 == 1) = z := by rw [← hzz]; exact ub_def (B k) b r r2 (by rw [HX.out.1]; exact hr) hr2
          have HST := Lib.hid (p := (C p).set (o + p) (.bool z) = C (p + 1)) (by
            have h1 := HC.out p hpn'
            rw [show p / 8 = k by have := HP0.out; omega, show p % 8 = b by have := HP0.out; omega, hzz] at h1
            exact h1)
          have HF := Lib.hid (p := X / 2 ^ b = r ∧ r % 2 = r2 ∧ (r2 == 1) = z ∧ r < 256 ∧ b < 8 ∧ p0 + b = p) ⟨hr, hr2, hzr, hrX, hb8, hp⟩
          clear hr hr2 hzz hrX hzr hb hb8 hp hpn' hz0
          go_wp2_with (first
            | (refine wp_shr8 rfl _ _ _ _ rfl X rfl _ b r rfl HF.out.2.2.2.2.1 HF.out.1 ?_)
            | (refine wp_and1 rfl _ _ (.tmp 24) _ rfl r r2 rfl HF.out.2.2.2.1 rfl HF.out.2.1 ?_)
            | (refine wp_eq1 rfl _ _ (.tmp 25) _ rfl Try.underlying5 r2 z rfl rfl HF.out.2.2.1 ?_))
          clear hpw hpn hp0' cz fz hbi hb0
          go_roundw
          case rel => exact ⟨b + 1, HF.out.2.2.2.2.1, by go_num, Lib.hid (by rw [show p0 + (b + 1) = p + 1 by have := HF.out.2.2.2.2.2; omega, ← HST.out]; exact HR.out.put _ _), Lib.hid (grown_trans HG.out (grown_set wr ⟨g, o + p, none⟩ _))⟩
          case measure => have := HF.out.2.2.2.2.1; simp [intOf]; omega
        · obtain rfl : b = 8 := by omega
          have hbi : ¬ ((8 : Nat) : Int) < 8 := by omega
          have HR2 := Lib.hid (p := Row wr g t (C (8 * (k + 1)))) (by rw [show 8 * (k + 1) = p0 + 8 by have := HP0.out; omega]; exact HR.out)
          clear hb hb8 HR
          go_wp2
          go_roundw
          case rel => exact ⟨k + 1, Lib.hid HKL.out, by go_num, HR2, HG⟩
          case measure => have := HKL.out; have := HM.out; simp [intOf]; omega
    · obtain rfl : k = m := by have := HK.out; omega
      have hki : ¬ (k : Int) < (k : Int) := by omega
      have HR2 := Lib.hid (p := Row wr g t (C n)) (by rw [← HN.out]; exact HR.out)
      clear hk HR
      go_wp2
      go_end0
      exact ⟨rfl, HR2, HG⟩
end Go.Proofs.Ytcebbpdclgejdaa
