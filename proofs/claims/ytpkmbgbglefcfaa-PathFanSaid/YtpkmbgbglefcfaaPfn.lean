/- The walk of the law PathFan. Conditions: those named. -/
import Derived.Test.YtpkmbgbglefcfaaPk
import Derived.Test.YtpkmbgbglefcfaaPa
import Derived.KernelRfl
set_option linter.unusedVariables false
namespace Go.Proofs.Ytpkmbgbglefcfaa
open Go.RowKit

/-- Does a node lead to the other one? -/
def und (y x : Int × Int) : Bool := (x.1 == y.1 - 1) && (x.2 == y.2 / 4)
def fanB (n : Nat) : Bool := (List.range (al n).length).all fun i => i == 0 || ((al n).take i).any (und ((al n).getD i (0, 0)))
theorem fan_ok {n : Nat} (h1 : 1 ≤ n) (h4 : n ≤ 4) : fanB n = true := by
  match n, h1, h4 with
  | 1, _, _ => decide +kernel
  | 2, _, _ => decide +kernel
  | 3, _, _ => decide +kernel
  | 4, _, _ => decide +kernel
theorem fan_at {n i : Nat} {y : Int × Int} (h1 : 1 ≤ n) (h4 : n ≤ 4) (hi : 1 ≤ i) (hy : (al n)[i]? = some y) : ((al n).take i).any (und y) = true := by
  have h := fan_ok h1 h4
  unfold fanB at h
  rw [List.all_eq_true] at h
  have hl := (List.getElem?_eq_some_iff.1 hy).1
  have := h i (List.mem_range.2 hl)
  rw [List.getD_eq_getElem?_getD, hy] at this
  have hne : (i == 0) = false := by rw [beq_eq_false_iff_ne]; omega
  rw [hne, Bool.false_or] at this
  exact this
theorem nd3 {n : Nat} (h1 : 1 ≤ n) (h4 : n ≤ 4) : 3 * (nd n : Int) = (pw n : Int) - 1 := by
  match n, h1, h4 with
  | 1, _, _ => decide
  | 2, _, _ => decide
  | 3, _, _ => decide
  | 4, _, _ => decide
theorem al_small : ∀ {n : Nat} {x : Int × Int}, n ≤ 4 → x ∈ al n → ∃ l i : Nat, x = ((l : Int), (i : Int)) ∧ l < n ∧ i < 256
  | 0, x, _, h => by simp [al] at h
  | n + 1, x, hn, h => by
    rcases List.mem_append.1 h with h | h
    · obtain ⟨l, i, e, hl, hi⟩ := al_small (by omega) h
      exact ⟨l, i, e, by omega, hi⟩
    · unfold lev at h
      obtain ⟨i, hi, rfl⟩ := List.mem_map.1 h
      have := pw_le (n := n) (by omega)
      have := List.mem_range.1 hi
      exact ⟨n, i, rfl, by omega, by omega⟩
set_option maxRecDepth 20000 in
set_option maxHeartbeats 2000000 in
theorem fan_any (u : Nat) (hu : u < 256) (w : World) : Calls Try.prog 8 #[.int .u8 (u : Int)] w fun e w' => e = .returned (.bool true) ∧ Below w.heap.size w w' := by
  obtain ⟨n, hn⟩ : ∃ n, 1 + u % 4 = n := ⟨_, rfl⟩
  have h1 : 1 ≤ n := by omega
  have h4 : n ≤ 4 := by omega
  have hni : 1 + (u : Int) % 4 = (n : Int) := by omega
  have HL := Lib.hid (lv_of h1 h4)
  have HS := Lib.hid (sl_of h1 h4)
  have HAL := Lib.hid (al_len n)
  have hnd := nd_le h4
  have h3 := nd3 h1 h4
  have HF := Lib.hid (p := ∀ i y, 1 ≤ i → (al n)[i]? = some y → ((al n).take i).any (und y) = true) (fun i y hi hy => fan_at h1 h4 hi hy)
  have hn0 : ((nd n : Int) != (nd n : Int)) = false := by simp
  have hp3 : (pw n : Int) - 1 = 3 * (nd n : Int) := by omega
  have hpl : (pw n : Int) ≤ 256 := by have := pw_le h4; omega
  clear hn h3
  go_enter Try.func8, Try.ntmps8
  go_wp2_with (first
    | (go_at_call 9; refine (awake_any _).mono ?_; rintro e w1 ⟨rfl, hB1⟩; have HB1 := Lib.hid hB1; clear hB1)
    | (go_at_call 15; refine (all_any _ _).mono ?_; rintro e w2 ⟨A, c, rfl, hO2, hB2⟩
       rw [HL.out, HAL.out] at hO2
       rw [HL.out, HAL.out]
       have HO2 := Lib.hid hO2.hol
       have HB2 := Lib.hid (below_nxt hB2 HB1.out)
       clear hO2 hB2)
    | (go_at_call 11; refine (slots_any _ _).mono ?_; rintro e w' ⟨rfl, rfl⟩; rw [HS.out])
    | (go_at_call 13; refine (nodes_any _ _).mono ?_; rintro e w' ⟨rfl, rfl⟩; rw [HL.out]))
  go_loopw [5] (fun i wr => ∃ k : Nat, 1 ≤ k ∧ k ≤ nd n ∧ i = .int .i64 k ∧ ∃ q, wr = w2.drewN q) (fun i _ => nd n - (intOf i).toNat)
  case atStart => exact ⟨1, Nat.le_refl _, by have : 1 ≤ nd n := (by match n, h1, h4 with | 1, _, _ => decide | 2, _, _ => decide | 3, _, _ => decide | 4, _, _ => decide); exact this, rfl, 0, rfl⟩
  case round =>
    obtain ⟨k, hk1, hk, rfl, q, rfl⟩ := hrel
    by_cases hlt : k < nd n
    · have hka : k < (al n).length := by rw [HAL.out]; exact hlt
      obtain ⟨ly, iy, hy, hly, hiy⟩ := al_small h4 (List.getElem_mem hka)
      have hy' : (al n)[k]? = some ((ly : Int), (iy : Int)) := by rw [List.getElem?_eq_getElem hka, hy]
      obtain ⟨g, rfl, hgs, hc1, hc2⟩ := HO2.out.at_ hy'
      have HT := Lib.hid (HF.out k _ hk1 hy')
      have hly4 : (ly : Int) ≤ 4 := by omega
      have hly0 : (0 : Int) ≤ (ly : Int) := by omega
      have hiy0 : (0 : Int) ≤ (iy : Int) := by omega
      have hiy1 : (iy : Int) ≤ 256 := by omega
      clear hy hy'
      go_wp2
      go_loopw [6, 7] (fun b i wr => ∃ j : Nat, j ≤ k ∧ i = .int .i64 j ∧ b = .bool (((al n).take j).any (und ((ly : Int), (iy : Int)))) ∧ ∃ q, wr = w2.drewN q) (fun _ i _ => k - (intOf i).toNat)
      case atStart => exact ⟨0, Nat.zero_le _, rfl, rfl, q, rfl⟩
      case round =>
        obtain ⟨j, hj, rfl, rfl, q, rfl⟩ := hrel
        by_cases hjl : j < k
        · have hja : j < (al n).length := by omega
          obtain ⟨lx, ix, hx, hlx, hix⟩ := al_small h4 (List.getElem_mem hja)
          have hx' : (al n)[j]? = some ((lx : Int), (ix : Int)) := by rw [List.getElem?_eq_getElem hja, hx]
          obtain ⟨g', e', hgs', hx1, hx2⟩ := HO2.out.at_ hx'
          injection e' with e'
          injection e' with e'
          subst e'
          have hts := List.take_succ_eq_append_getElem hja
          rw [hx] at hts
          obtain ⟨B, hB⟩ : ∃ B, ((al n).take j).any (und ((ly : Int), (iy : Int))) = B := ⟨_, rfl⟩
          have HN : Hid (((al n).take (j + 1)).any (und ((ly : Int), (iy : Int))) = (B || (((lx : Int) == (ly : Int) - 1) && ((ix : Int) == (iy : Int) / 4)))) := Lib.hid (by
            rw [hts, List.any_append, hB]
            simp [und])
          rw [hB]
          have hjnd : j < nd n := by omega
          have hwr : IntKind.i64.wrap ((ly : Int) - 1) = (ly : Int) - 1 := by rw [IntKind.wrap_i64]; omega
          have hwq : IntKind.i64.wrap ((iy : Int) / 4) = (iy : Int) / 4 := by rw [IntKind.wrap_i64]; omega
          clear hx hx' hts hB
          cases B
          · cases hb1 : ((lx : Int) == (ly : Int) - 1)
            · rw [hb1] at HN
              go_wp2_with fail
              go_quiet (fail)
              go_wp2
              go_roundw
              case rel => exact ⟨j + 1, by omega, by go_num, by rw [HN.out]; rfl, _, rfl⟩
              case measure => simp [intOf]; omega
            · cases hb2 : ((ix : Int) == (iy : Int) / 4)
              · rw [hb1, hb2] at HN
                go_wp2_with fail
                go_quiet (fail)
                go_wp2
                go_roundw
                case rel => exact ⟨j + 1, by omega, by go_num, by rw [HN.out]; rfl, _, rfl⟩
                case measure => simp [intOf]; omega
              · rw [hb1, hb2] at HN
                go_wp2_with fail
                go_quiet (fail)
                go_wp2
                go_roundw
                case rel => exact ⟨j + 1, by omega, by go_num, by rw [HN.out]; rfl, _, rfl⟩
                case measure => simp [intOf]; omega
          · rw [Bool.true_or] at HN
            go_wp2_with fail
            go_quiet (fail)
            go_wp2
            go_roundw
            case rel => exact ⟨j + 1, by omega, by go_num, by rw [HN.out], _, rfl⟩
            case measure => simp [intOf]; omega
        · obtain rfl : j = k := by omega
          rw [HT.out]
          go_wp2
          go_roundw
          case rel => exact ⟨j + 1, by omega, by omega, by go_num, _, rfl⟩
          case measure => simp [intOf]; omega
    · obtain rfl : k = nd n := by omega
      go_wp2
      go_ret
      exact ⟨rfl, below_drewN HB2.out _⟩
end Go.Proofs.Ytpkmbgbglefcfaa
