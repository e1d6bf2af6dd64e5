/- Package grant: a number as bytes, flags as bytes. No conditions but those named. -/
import Derived.Test.YtcebbpdclgejdaaGp
import Derived.Test.YtcebbpdclgejdaaApp
import Derived.Test.YtcebbpdclgejdaaKept
set_option linter.unusedVariables false
set_option maxRecDepth 20000
namespace Go.Proofs.Ytcebbpdclgejdaa
open Go.RowKit

theorem bq (q : Nat) (h : q < 256) : B (UInt8.ofNat q) = .int .u8 (q : Int) := by
  show Value.int .u8 (((UInt8.ofNat q).toNat : Nat) : Int) = _
  rw [UInt8.toNat_ofNat']
  have e8 : (2 : Nat) ^ 8 = 256 := rfl
  rw [e8, Nat.mod_eq_of_lt h]
/-- New bytes. -/
def NewB (w : World) (l : List UInt8) (e : Ending) (w' : World) : Prop := ∃ A c, e = .returned (.slice A l.length c) ∧ Hid (w'.ownsRow w.heap.size 5 1 (.slice A l.length c) l.length (bc l)) ∧ Hid (Below w.heap.size w w')
theorem gnumber_any (k x : Nat) (hk : k = 2 ∨ k = 8) (hx : x < 256 ^ k) (w : World) : Calls Try.prog 21 #[.int .i64 (k : Int), .int .u64 (x : Int)] w (NewB w (leb x k)) := by
  have hx64 : x < 18446744073709551616 := by
    rcases hk with rfl | rfl
    · have e : (256 : Nat) ^ 2 = 65536 := rfl
      omega
    · exact hx
  have hp := put_any none 0 [] (k : Int) x w (.inl rfl) hx64 (by simp)
  have hr : putR [] (k : Int) x = (leb x k, 0) := by
    unfold putR
    rw [if_neg (by rcases hk with rfl | rfl <;> decide), if_neg (by rw [Int.toNat_natCast]; intro h; exact h (Nat.div_eq_of_lt hx)), Int.toNat_natCast]
    rfl
  rw [hr] at hp
  have HP := Lib.hid hp
  clear hp hr hx hx64 hk
  go_enter Try.func21, Try.ntmps21
  go_wp2_with (go_at_call 35; refine HP.out.mono ?_; rintro e w1 ⟨v, rfl, hown, hb⟩
               obtain ⟨A1, c1, rfl⟩ := own_sl hown
               have HO := Lib.hid hown
               have HB := Lib.hid hb
               clear hown hb)
  go_ret
  exact ⟨A1, c1, rfl, HO, HB⟩
/-! Flags. -/
def uq (f : Nat → Bool) (k q : Nat) (j : Nat) : UInt8 := if j < k then bt f j else if j = k then UInt8.ofNat q else 0
theorem uq_self (f : Nat → Bool) (k q : Nat) : uq f k q k = UInt8.ofNat q := by unfold uq; rw [if_neg (by omega), if_pos rfl]
theorem uq_upd (f : Nat → Bool) (k q q2 : Nat) : upd (uq f k q) k (UInt8.ofNat q2) = uq f k q2 := by
  funext j
  unfold upd uq
  by_cases h : j = k
  · rw [if_pos h, if_neg (by omega), if_pos h]
  · rw [if_neg h]
    by_cases h2 : j < k
    · rw [if_pos h2, if_pos h2]
    · rw [if_neg h2, if_neg h2, if_neg h, if_neg h]
theorem uq_next (f : Nat → Bool) (k : Nat) : uq f k (bn f k 8) = uq f (k + 1) 0 := by
  funext j
  unfold uq
  by_cases h : j < k
  · rw [if_pos h, if_pos (by omega)]
  · rw [if_neg h]
    by_cases h2 : j = k
    · subst h2
      rw [if_pos rfl, if_pos (by omega)]
      rfl
    · rw [if_neg h2, if_neg (by omega)]
      split <;> rfl
theorem uq_zero (f : Nat → Bool) : uq f 0 0 = fun _ => 0 := by
  funext j
  unfold uq
  rw [if_neg (by omega)]
  split <;> rfl
theorem bn_le (f : Nat → Bool) (k m : Nat) (hm : m ≤ 8) : bn f k m < 256 := by
  have h1 := bn_lt f k m
  have h2 : 2 ^ m ≤ 2 ^ 8 := Nat.pow_le_pow_right (by decide) hm
  have e : (2 : Nat) ^ 8 = 256 := rfl
  omega
set_option maxHeartbeats 4000000 in
theorem packbits_any (A : Option Addr) (c n m : Nat) (f : Nat → Bool) (hn : n = 8 * m) (hm : m ≤ 32) (hc : n ≤ c) (w : World) (hA : HolB w A n f) : Calls Try.prog 22 #[.slice A n c] w fun e w' => ∃ g, e = .returned (.slice (some ⟨g, 0, none⟩) m m) ∧ Hid (Row w' g 5 (brr m (bt f))) ∧ Hid (w.heap.size ≤ g) ∧ Hid (Below w.heap.size w w') := by
  obtain ⟨i, U⟩ := u8_tab
  have h1 : (n : Int) / 8 = (m : Int) := by omega
  have h2 : Int.tdiv (n : Int) 8 = (m : Int) := by rw [Int.tdiv_eq_ediv_of_nonneg (by omega)]; exact h1
  have h3 : wrap64 (m : Int) = (m : Int) := by unfold wrap64; omega
  have HA := Lib.hid hA
  have HN := Lib.hid hn
  have HM := Lib.hid hm
  clear hA hn hm hc
  go_enter Try.func22, Try.ntmps22
  go_wp2_with (refine step_make rfl _ _ 29 5 i U rfl m (congrArg (Value.int .i64) h3) (congrArg (Value.int .i64) h3) (by have := HM.out; omega) ?_; intro gb w1 hr1 hg1 hb1 hs1
               have R1 := Lib.hid hr1
               have HB1 := Lib.hid hb1
               have QB := Lib.hid (p := w.heap.size ≤ gb) (by rw [hg1.out]; exact Nat.le_refl _)
               clear hr1 hg1 hb1 hs1)
  have R1' := Lib.hid (p := Row w1 gb 5 (brr m (uq f 0 0))) (by rw [uq_zero]; exact R1.out)
  clear R1
  go_loopw [12] (fun y wr => ∃ k : Nat, k ≤ m ∧ y = .int .i64 (k : Int) ∧ Hid (Row wr gb 5 (brr m (uq f k 0))) ∧ Hid (Below w.heap.size w wr)) (fun y _ => 32 - (intOf y).toNat)
  case atStart => exact ⟨0, by omega, rfl, R1', HB1⟩
  case round =>
    clear R1' HB1
    obtain ⟨k, hk, rfl, HR, HB⟩ := hrel
    have hkw : IntKind.i64.wrap ((k : Int) + 1) = (k : Int) + 1 := by rw [IntKind.wrap_i64]; have := HM.out; omega
    by_cases hkm : k < m
    · have hki : (k : Int) < (m : Int) := by omega
      have HK := Lib.hid hkm
      have h8k : IntKind.i64.wrap (8 * (k : Int)) = ((8 * k : Nat) : Int) := by rw [IntKind.wrap_i64]; have := HM.out; omega
      obtain ⟨p0, hp0⟩ : ∃ p0, 8 * k = p0 := ⟨_, rfl⟩
      rw [hp0] at h8k
      have HP0 := Lib.hid hp0
      clear hk hkm hp0
      go_wp2
      go_loopw [15] (fun y wr => ∃ b : Nat, b ≤ 8 ∧ y = .int .i64 (b : Int) ∧ Hid (Row wr gb 5 (brr m (uq f k (bn f k b)))) ∧ Hid (Below w.heap.size w wr)) (fun y _ => 8 - (intOf y).toNat)
      case atStart => exact ⟨0, by omega, rfl, HR, HB⟩
      case round =>
        clear HR HB
        obtain ⟨b, hb, rfl, HR, HB⟩ := hrel
        have hbw : IntKind.i64.wrap ((b : Int) + 1) = (b : Int) + 1 := by rw [IntKind.wrap_i64]; omega
        by_cases hb8 : b < 8
        · have hbi : (b : Int) < 8 := by omega
          have hb0 : (0 : Int) ≤ (b : Int) := by omega
          obtain ⟨p, hp⟩ : ∃ p, p0 + b = p := ⟨_, rfl⟩
          have hpw : IntKind.i64.wrap ((p0 : Int) + (b : Int)) = (p : Int) := by rw [IntKind.wrap_i64]; have := HM.out; have := HP0.out; have := HK.out; omega
          have hpn : (p : Int) < (n : Int) := by have := HN.out; have := HP0.out; have := HK.out; omega
          obtain ⟨gf, of, rfl, hcf⟩ := HA.out.below HB.out
          have cf := hcf p (by omega)
          have hst := bn_step f k b
          rw [HP0.out, hp] at hst
          have hq := bn_le f k b hb
          have hlt := bn_lt f k b
          obtain ⟨q, hqq⟩ : ∃ q, bn f k b = q := ⟨_, rfl⟩
          rw [hqq] at hst hq hlt
          have c1 : wr.cell? ⟨gb, k, none⟩ = some (.int .u8 (q : Int)) := by rw [HR.out.cell, brr_get _ HK.out, uq_self, hqq, bq q hq]
          have f1 := HR.out.free k
          cases hfp : f p
          · rw [hfp] at cf hst
            have HST := Lib.hid (p := bn f k (b + 1) = bn f k b) (by rw [hst, hqq]; rfl)
            have HB8 := Lib.hid hb8
            clear hcf hst hq hlt hqq c1 f1 hfp hp hb hb8
            go_wp2
            go_roundw
            case rel => exact ⟨b + 1, by have := HB8.out; omega, by go_num, by rw [HST.out]; exact HR, HB⟩
            case measure => have := HB8.out; simp [intOf]; omega
          · rw [hfp, if_pos rfl] at hst
            rw [hfp] at cf
            have hs1 := shl_bit b hb8
            have ho1 := or_bit q b hlt hb8
            obtain ⟨pp, hpp⟩ : ∃ pp, 2 ^ b = pp := ⟨_, rfl⟩
            rw [hpp] at hs1 ho1 hst hlt
            obtain ⟨q2, hq2⟩ : ∃ q2, q + pp = q2 := ⟨_, rfl⟩
            rw [hq2] at ho1 hst
            have hq2l : q2 < 256 := by rw [← hst]; exact bn_le f k (b + 1) (by omega)
            have HQQ := Lib.hid hqq
            have HST := Lib.hid hst
            have HQ2 := Lib.hid hq2l
            have HB8 := Lib.hid hb8
            clear hcf hst hq hlt hqq hfp hp hb hb8 hpp hq2 hq2l
            go_wp2
            go_region
            go_wp2
            go_roundw
            case rel => exact ⟨b + 1, by have := HB8.out; omega, by go_num, Lib.hid (by rw [HST.out, ← uq_upd f k q q2, ← brr_set, bq q2 HQ2.out, ← HQQ.out]; exact (HR.out.put _ _).drew), Lib.hid (HB.out.setCell (p := ⟨gb, k, none⟩) QB.out _).drew⟩
            case measure => have := HB8.out; simp [intOf]; omega
        · obtain rfl : b = 8 := by omega
          have HR2 := Lib.hid (p := Row wr gb 5 (brr m (uq f (k + 1) 0))) (by rw [← uq_next]; exact HR.out)
          clear hb hb8 HR
          go_wp2
          go_roundw
          case rel => exact ⟨k + 1, by have := HK.out; omega, by go_num, HR2, HB⟩
          case measure => have := HK.out; have := HM.out; simp [intOf]; omega
    · obtain rfl : k = m := by omega
      have HR2 := Lib.hid (p := Row wr gb 5 (brr k (bt f))) (by rw [brr_congr (g := uq f k 0) (fun j hj => by unfold uq; rw [if_pos hj])]; exact HR.out)
      have hki : ¬ (k : Int) < (k : Int) := by omega
      clear hk hkm HR
      go_wp2
      go_ret
      exact ⟨gb, rfl, HR2, QB, HB⟩
end Go.Proofs.Ytcebbpdclgejdaa
