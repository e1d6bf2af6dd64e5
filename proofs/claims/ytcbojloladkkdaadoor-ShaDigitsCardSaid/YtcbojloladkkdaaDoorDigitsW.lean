/- A digest's text has 64 digits, which say its bytes in order: the walk. Condition: the listed tables. -/
import Derived.Test.YtcbojloladkkdaaDoorWake
set_option linter.unusedVariables false
namespace Go.Proofs.YtcbojloladkkdaaDoor.shaDigits
open Go.RowKit

/-- The half byte that the i-th digit says. -/
def nib (f : Nat → UInt8) (i : Nat) : Nat := if i % 2 = 1 then (f (i / 2)).toNat % 16 else (f (i / 2)).toNat / 16
theorem nib_lt (f : Nat → UInt8) (i : Nat) : nib f i < 16 := by
  have := u8_lt (f (i / 2))
  unfold nib
  split <;> omega
theorem hxs_get (f : Nat → UInt8) : ∀ k i, i < 2 * k → (hxs f k)[i]? = some (hx (nib f i))
  | 0, i, h => by omega
  | k + 1, i, h => by
    rw [hxs_succ]
    by_cases h2 : i < 2 * k
    · rw [List.getElem?_append_left (by rw [hxs_len]; exact h2), hxs_get f k i h2]
    · rw [List.getElem?_append_right (by rw [hxs_len]; omega), hxs_len]
      have h3 : i = 2 * k ∨ i = 2 * k + 1 := by omega
      rcases h3 with rfl | rfl
      · rw [Nat.sub_self]
        unfold nib
        rw [if_neg (by omega), show 2 * k / 2 = k by omega]
        rfl
      · rw [show 2 * k + 1 - 2 * k = 1 by omega]
        unfold nib
        rw [if_pos (by omega), show (2 * k + 1) / 2 = k by omega]
        rfl
theorem hx_inj : ∀ a, a < 16 → ∀ b, b < 16 → hx a = hx b → a = b := by decide
theorem hx_eq (a b : Nat) (ha : a < 16) (hb : b < 16) : (bv (hx a) == bv (hx b)) = decide (a = b) := by
  by_cases h : a = b
  · subst h
    simp
  · rw [decide_eq_false h]
    have : bv (hx a) ≠ bv (hx b) := fun e => h (hx_inj a ha b hb (by
      unfold bv at e
      exact UInt8.toNat_inj.1 (by omega)))
    simpa using this
theorem run_at_digit {P : Program} (w : World) (t : TypeId) (l : List UInt8) (i : Nat) (b : UInt8) (h : l[i]? = some b) (ht : P.underlying t = some .string) :
    (Instr.index t (.string ⟨l.toArray⟩) (.int .i64 i)).run P w = .ok (B b) w := by
  have hl : i < l.length := (List.getElem?_eq_some_iff.1 h).1
  have hb : l[i] = b := (List.getElem?_eq_some_iff.1 h).2
  have hs : i < (⟨l.toArray⟩ : ByteArray).size := by
    show i < l.toArray.size
    simpa using hl
  have he : (⟨l.toArray⟩ : ByteArray)[i]? = some b := by
    rw [getElem?_pos (⟨l.toArray⟩ : ByteArray) i hs]
    congr 1
  simp [Instr.index, asIntOf, run_underlying ht, he]
  rfl

set_option maxHeartbeats 1000000 in
theorem walk (f : Nat → UInt8) (w : World) (hT : Tabs w) : Calls Tryd.prog 4 #[.agg (brr 32 f).toArray] w fun e w' => e = .returned (.bool true) ∧ Below w.heap.size w w' := by
  have i27 := Lib.hid (p := (Tryd.prog.info? 27).map (·.size) = some 32) (by kernel_rfl)
  have HT := Lib.hid hT
  clear hT
  have hsz : (⟨(hxs f 32).toArray⟩ : ByteArray).size = 64 := by show (hxs f 32).toArray.size = 64; simp [hxs_len]
  obtain ⟨S, hS⟩ : ∃ S : ByteArray, S = ⟨(hxs f 32).toArray⟩ := ⟨_, rfl⟩
  rw [← hS] at hsz
  have hix := Lib.hid (p := ∀ (w : World) (i : Nat), i < 64 → (Instr.index 9 (.string S) (.int .i64 i)).run Tryd.prog w = .ok (B (hx (nib f i))) w) (fun w i hi => by rw [hS]; exact run_at_digit w _ _ i _ (hxs_get f 32 i hi) Tryd.underlying9)
  have HS := Lib.hid hS
  clear hS
  go_enter Tryd.func4, Tryd.ntmps4
  go_wp2_with (first
    | (refine step_box rfl 1 rfl 27 _ rfl (brr 32 f) rfl ?_; intro g1 w1 hr1 hg1 hb1 hs1)
    | (go_at_call 5; refine (awake_any _ (HT.out.below hb1)).mono ?_; rintro e w2 ⟨rfl, hb2⟩)
    | (refine step_load rfl 10 rfl 27 _ rfl _ rfl (brr 32 f) _ (hr1.kept hb2).all Tryd.underlying27 rfl (by rw [brr_len]; exact i27) ?_)
    | (go_at_call 9; refine (text_any f _).mono ?_; rintro e w3 ⟨rfl, hb3⟩; rw [← HS.out]))
  have q1 : w.heap.size ≤ g1 := by rw [hg1.out]; exact Nat.le_refl _
  have r1 := ((hr1.kept hb2).kept hb3)
  have hb : Below w.heap.size w w3 := (hb1.trans (hb2.mono hb1.size)).trans (hb3.mono (Nat.le_trans hb1.size hb2.size))
  clear hr1 hg1 hb1 hs1 hb2 hb3
  go_loopw [4] (fun i wr => ∃ k : Nat, k ≤ 64 ∧ i = .int .i64 k ∧ Row wr g1 27 (brr 32 f) ∧ Below w.heap.size w wr) (fun i _ => 64 - (intOf i).toNat)
  case atStart => exact ⟨0, by omega, rfl, r1, hb⟩
  case round =>
    obtain ⟨i, hi, rfl, p1, pb⟩ := hrel
    clear r1 hb
    by_cases hlt : i < 64
    · obtain ⟨wo, rfl⟩ : ∃ wo : World, wo = wr := ⟨_, rfl⟩
      have hd16 := nib_lt f i
      have hti := fun w => hix.out w i hlt
      obtain ⟨d, hd⟩ : ∃ d, d = nib f i := ⟨_, rfl⟩
      rw [← hd] at hd16 hti
      have HD := Lib.hid hd
      clear hd
      go_wp2
      go_loopw [5, 6] (fun v j wr => ∃ k : Nat, k ≤ 16 ∧ j = .int .i64 k ∧ v = .int .i64 (if d < k then (d : Int) else -1) ∧ Row wr g1 27 (brr 32 f) ∧ Below w.heap.size w wr) (fun _ j _ => 16 - (intOf j).toNat)
      case atStart => exact ⟨0, by omega, rfl, by rw [if_neg (by omega)], p1, pb⟩
      case round =>
        obtain ⟨k, hk, rfl, rfl, p1', pb'⟩ := hrel
        clear p1 pb
        by_cases hk16 : k < 16
        · have hdk := fun w => run_digit w .i64 9 k hk16 Tryd.underlying9
          have heq := hx_eq k d hk16 hd16
          have hvs : ∀ x : Int, x = (if d < k then (d : Int) else -1) → True := fun _ _ => trivial
          obtain ⟨v, hv⟩ : ∃ v : Int, v = (if d < k then (d : Int) else -1) := ⟨_, rfl⟩
          rw [← hv]
          have HV := Lib.hid hv
          clear hv hvs
          by_cases hkd : k = d
          · rw [decide_eq_true hkd] at heq
            have HKD := Lib.hid hkd
            clear hkd
            go_wp2
            go_quiet (fail)
            go_wp2
            go_roundw
            case rel => exact ⟨k + 1, by omega, by go_num, by have := HKD.out; rw [if_pos (by omega), this], p1'.drewN _, below_drewN pb' _⟩
            case measure => simp [intOf]; omega
          · rw [decide_eq_false hkd] at heq
            have HKD := Lib.hid hkd
            clear hkd
            go_wp2
            go_quiet (fail)
            go_wp2
            go_roundw
            case rel =>
              have hne := HKD.out
              refine ⟨k + 1, by omega, by go_num, ?_, p1'.drewN _, below_drewN pb' _⟩
              rw [HV.out]
              by_cases hdk2 : d < k
              · rw [if_pos hdk2, if_pos (by omega)]
              · rw [if_neg hdk2, if_neg (by omega)]
            case measure => simp [intOf]; omega
        · obtain rfl : k = 16 := by omega
          rw [if_pos hd16]
          obtain ⟨c, hc⟩ : ∃ c, c = (f (i / 2)).toNat := ⟨_, rfl⟩
          have hc256 : c < 256 := by rw [hc]; exact u8_lt _
          have cc : wr.cell? ⟨g1, i / 2, none⟩ = some (.int .u8 (c : Int)) := by rw [p1'.cell, brr_get _ (by omega), hc]; rfl
          have hdc := HD.out
          unfold nib at hdc
          rw [← hc] at hdc
          clear hc
          by_cases hodd : i % 2 = 1
          · rw [if_pos hodd] at hdc
            have hI : (i : Int) % 2 = 1 := by omega
            have hne : ((d : Int) != (c : Int) % 16) = false := by rw [hdc]; simp
            clear hodd hdc
            go_wp2
            go_roundw
            case rel => exact ⟨i + 1, by omega, by go_num, p1', pb'⟩
            case measure => simp [intOf]; omega
          · rw [if_neg hodd] at hdc
            have hI : (i : Int) % 2 = 0 := by omega
            have hne : ((d : Int) != (c : Int) / 16) = false := by rw [hdc]; simp
            clear hodd hdc
            go_wp2
            go_roundw
            case rel => exact ⟨i + 1, by omega, by go_num, p1', pb'⟩
            case measure => simp [intOf]; omega
    · obtain rfl : i = 64 := by omega
      go_wp2
      go_ret
      exact ⟨rfl, pb⟩
end Go.Proofs.YtcbojloladkkdaaDoor.shaDigits
