/- The reference's numbers as bytes, and its comparison of bytes: what each call leaves. Conditions: those named. -/
import Derived.Test.YtecojmafnonkiaaApp
import Derived.Test.YtecojmafnonkiaaPlain
import Derived.BigQuiet
import Derived.Deep.QuietTactic
set_option linter.unusedVariables false
namespace Go.Proofs.Ytecojmafnonkiaa
open Go.RowKit

theorem hol_b (w : World) (e : TypeId) (x : UInt8) (z : Int) (hz : z = (x.toNat : Int)) : Hol (w.alloc (.cells #[.int .u8 z] e)) (some ⟨w.heap.size, 0, none⟩) [x] := by
  subst hz
  exact hol_byte (made_byte w e _)
theorem div_stp (x k : Nat) : ((x / 256 ^ k : Nat) : Int) / 256 = ((x / 256 ^ (k + 1) : Nat) : Int) := by
  rw [Nat.pow_succ, ← Nat.div_div_eq_div_mul]
  omega
theorem byte_md (x k : Nat) : ((x / 256 ^ k : Nat) : Int) % 256 = ((UInt8.ofNat (x / 256 ^ k)).toNat : Int) := by
  have e : (UInt8.ofNat (x / 256 ^ k)).toNat = x / 256 ^ k % 256 := UInt8.toNat_ofNat' ..
  rw [e]
  omega

theorem byte_slf (b : UInt8) : (b.toNat : Int) % 256 = (b.toNat : Int) := by have := b.toNat_lt; omega

set_option maxHeartbeats 1000000 in
theorem rput_app (A : Option Addr) (c : Nat) (l : List UInt8) (k : Nat) (x : Nat) (w : World) (hA : Hol w A l) (hx : x < 18446744073709551616) (hx0 : x / 256 ^ k = 0) (hl : l.length ≤ 35184372088832) (hk : 1 ≤ k) (hk8 : k ≤ 8)
    (h : ((k : Int) != 1) = false ∨ ((k : Int) != 1) = true ∧ ((k : Int) != 2) = false ∨ ((k : Int) != 1) = true ∧ ((k : Int) != 2) = true ∧ ((k : Int) != 4) = false ∨ ((k : Int) != 1) = true ∧ ((k : Int) != 2) = true ∧ ((k : Int) != 4) = true ∧ ((k : Int) != 8) = false) :
    Calls Try.prog 19 #[.slice A l.length c, .int .i64 k, .int .u64 x] w fun e w' => ∃ v, e = .returned (.tuple #[v, .int .i64 0]) ∧ w'.ownsRow w.heap.size 5 1 v (l.length + k) (bc (l ++ leb x k)) ∧ Below w.heap.size w w' := by
  obtain ⟨i, U⟩ := u8_tab
  have HX0 := Lib.hid hx0
  clear hx0
  have hown0 : ∀ W : World, (W.alloc (.cells #[] 5)).ownsRow W.heap.size 5 1 (.slice (some ⟨W.heap.size, 0, none⟩) 0 0) 0 [] := fun W => World.ownsRow_made W #[] 0 (Nat.le_refl _) (by decide) rfl
  have HO := Lib.hid hown0
  clear hown0
  rcases h with h | ⟨h, h2⟩ | ⟨h, h2, h3⟩ | ⟨h, h2, h3, h4⟩
  all_goals
    go_enter Try.func19, Try.ntmps19
    go_wp2_with (at_builtin; refine wpList_app _ rfl (.tmp 24) (.tmp 25) _ rfl 5 i U w.heap.size _ 0 [] rfl (HO.out w) A l.length c l rfl rfl (hA.below (below_of_grown (World.grownBy_alloc w _ none))) (by omega) (by simp) ?_; intro v1 w1 hown1 hg1 hat1)
  all_goals
    have hb1 : Below w.heap.size w w1 := (below_of_grown (World.grownBy_alloc w _ none)).grown hg1 (by simp) (fun k hk => ((HO.out w).lt k hk).1)
    have hown2 : w1.ownsRow w.heap.size 5 1 v1 (l.length + 0) (bc (l ++ leb x 0)) := by simpa [leb] using hown1
    clear hown1 hg1 hat1
    go_loopw [2, 8, 9] (fun y s i wr => ∃ j : Nat, j ≤ k ∧ i = .int .i64 j ∧ y = .int .u64 (x / 256 ^ j : Nat) ∧ wr.ownsRow w.heap.size 5 1 s (l.length + j) (bc (l ++ leb x j)) ∧ Below w.heap.size w wr) (fun _ _ i _ => k - (intOf i).toNat)
    case atStart => exact ⟨0, Nat.zero_le _, rfl, by simp, hown2, hb1⟩
    case round =>
      obtain ⟨j, hj, rfl, rfl, hown3, hb3⟩ := hrel
      have hY : x / 256 ^ j < 18446744073709551616 := Nat.lt_of_le_of_lt (Nat.div_le_self _ _) hx
      have hd1 := div_stp x j
      have hm1 := byte_md x j
      by_cases hlt : j < k
      · generalize hy : x / 256 ^ j = y at *
        have HD := Lib.hid hd1
        have HM := Lib.hid hm1
        have HY := Lib.hid hy
        clear hd1 hm1 hy
        go_wp2_with (at_builtin; refine wpList_app _ rfl _ _ _ rfl 5 i U w.heap.size _ (l.length + j) _ rfl (hown3.alloc _) (some ⟨wr.heap.size, 0, none⟩) 1 1 [UInt8.ofNat y] rfl rfl (hol_b _ _ _ _ (by exact HM.out)) (by omega) (by have := hb3.size; simp; omega) ?_; intro v4 w4 hown4 hg4 hat4)
        have hb4 : Below w.heap.size w w4 := (hb3.alloc hb3.size _).grown hg4 (by have := hb3.size; simp; omega) (fun q hq => (hown3.lt q hq).1)
        have hown5 : w4.ownsRow w.heap.size 5 1 v4 (l.length + (j + 1)) (bc (l ++ leb x (j + 1))) := by
          rw [leb_succ, HY.out, ← List.append_assoc, bc_app]
          exact hown4
        clear hown4 hg4 hat4
        go_roundw
        case rel => exact ⟨j + 1, by omega, by go_num, by rw [← HD.out], hown5, hb4⟩
        case measure => simp [intOf]; omega
      · have hjk : j = k := by omega
        subst hjk
        clear hd1 hm1
        have hz := HX0.out
        have hzz : ((x / 256 ^ j : Nat) : Int) = 0 := by rw [hz]; rfl
        generalize hy : x / 256 ^ j = y at *
        subst hz
        have HY := Lib.hid hy
        clear hzz hy
        go_wp2
        go_ret2
        exact ⟨_, rfl, hown3, hb3⟩

theorem rput4 (A : Option Addr) (c : Nat) (l : List UInt8) (x : Nat) (w : World) (hA : Hol w A l) (hx : x < 4294967296) (hl : l.length ≤ 35184372088832) :
    Calls Try.prog 19 #[.slice A l.length c, .int .i64 4, .int .u64 x] w fun e w' => ∃ v, e = .returned (.tuple #[v, .int .i64 0]) ∧ w'.ownsRow w.heap.size 5 1 v (l.length + 4) (bc (l ++ leb x 4)) ∧ Below w.heap.size w w' :=
  rput_app A c l 4 x w hA (by omega) (by omega) hl (by omega) (by omega) (.inr (.inr (.inl ⟨rfl, rfl, rfl⟩)))
theorem rput8 (A : Option Addr) (c : Nat) (l : List UInt8) (x : Nat) (w : World) (hA : Hol w A l) (hx : x < 18446744073709551616) (hl : l.length ≤ 35184372088832) :
    Calls Try.prog 19 #[.slice A l.length c, .int .i64 8, .int .u64 x] w fun e w' => ∃ v, e = .returned (.tuple #[v, .int .i64 0]) ∧ w'.ownsRow w.heap.size 5 1 v (l.length + 8) (bc (l ++ leb x 8)) ∧ Below w.heap.size w w' :=
  rput_app A c l 8 x w hA hx (by omega) hl (by omega) (by omega) (.inr (.inr (.inr ⟨rfl, rfl, rfl, rfl⟩)))

theorem hol_drwN {w : World} {A : Option Addr} {l : List UInt8} (h : Hol w A l) : ∀ q, Hol (w.drewN q) A l
  | 0 => h
  | q + 1 => hol_drwN (w := w.drew) h q

set_option maxHeartbeats 400000 in
theorem rbytes_any (A B : Option Addr) (c d : Nat) (a b : List UInt8) (w : World) (hA : Hol w A a) (hB : Hol w B b) (ha : a.length ≤ 9223372036854775807) (hb : b.length ≤ 9223372036854775807) :
    Calls Try.prog 11 #[.slice A a.length c, .slice B b.length d] w fun e w' => e = .returned (.bool (decide (a = b))) ∧ Below w.heap.size w w' := by
  by_cases hl : a.length = b.length
  · generalize hR : decide (a = b) = R
    have HR := Lib.hid hR
    clear hR
    have hn : ((a.length : Int) != (b.length : Int)) = false := by rw [bne_eq_false_iff_eq]; omega
    generalize hbn : b.length = n at *
    have HL := Lib.hid hl
    have HB := Lib.hid hbn
    clear hl hbn
    have hn2 : (a.length : Int) ≤ (n : Int) := by have := HL.out; omega
    have hn3 : a.length ≤ n := by have := HL.out; omega
    go_enter Try.func11, Try.ntmps11
    go_wp2
    go_loopw [5] (fun i wr => ∃ k : Nat, k ≤ a.length ∧ i = .int .i64 k ∧ Hid (a.take k = b.take k) ∧ ∃ q, wr = w.drewN q) (fun i _ => a.length - (intOf i).toNat)
    case atStart => exact ⟨0, Nat.zero_le _, rfl, Lib.hid (by simp), 0, rfl⟩
    case round =>
      obtain ⟨k, hk, rfl, htk, q, rfl⟩ := hrel
      by_cases hlt : k < a.length
      · have hltb : k < b.length := by have := HL.out; have := HB.out; omega
        obtain ⟨g, o, rfl, _, hc1⟩ := hA.at_ hlt
        obtain ⟨g2, o2, rfl, _, hc2⟩ := hB.at_ hltb
        obtain ⟨x, hx⟩ : ∃ x, a[k] = x := ⟨_, rfl⟩
        obtain ⟨y, hy⟩ : ∃ y, b[k] = y := ⟨_, rfl⟩
        rw [hx] at hc1
        rw [hy] at hc2
        have HX := Lib.hid hx
        have HY := Lib.hid hy
        clear hx hy
        have hkz : (k : Int) < (a.length : Int) := by omega
        have hkz2 : (k : Int) < (n : Int) := by omega
        by_cases hxy : x = y
        · subst hxy
          have htk2 : Hid (a.take (k + 1) = b.take (k + 1)) := by
            refine Lib.hid ?_
            rw [List.take_succ_eq_append_getElem hlt, List.take_succ_eq_append_getElem hltb, htk.out, HX.out, HY.out]
          go_wp2_with fail
          go_quiet (fail)
          go_wp2
          go_roundw
          case rel =>
            exact ⟨k + 1, by omega, by go_num, htk2, _, rfl⟩
          case measure => simp [intOf]; omega
        · have hR : R = false := by
            rw [← HR.out]
            apply decide_eq_false
            intro e
            apply hxy
            subst e
            rw [← HX.out, ← HY.out]
          subst hR
          have hne : ((x.toNat : Int) != (y.toNat : Int)) = true := by
            rw [bne_iff_ne]
            intro e
            exact hxy (UInt8.toNat_inj.1 (by omega))
          clear hxy
          go_wp2_with fail
          go_quiet (fail)
          go_wp2
          go_ret
          exact ⟨rfl, below_drewN (below_drewN (Below.refl _ _) _) _⟩
      · have hR : R = true := by
          rw [← HR.out]
          apply decide_eq_true
          have := htk.out
          rw [List.take_of_length_le (by omega), List.take_of_length_le (by have := HL.out; have := HB.out; omega)] at this
          exact this
        subst hR
        go_wp2
        go_ret
        exact ⟨rfl, below_drewN (Below.refl _ _) _⟩
  · have hR : decide (a = b) = false := by
      apply decide_eq_false
      intro e
      exact hl (by rw [e])
    rw [hR]
    have hn : ((a.length : Int) != (b.length : Int)) = true := by rw [bne_iff_ne]; omega
    clear hl hR
    go_enter Try.func11, Try.ntmps11
    go_wp2
    go_ret
    exact ⟨rfl, Below.refl _ _⟩

end Go.Proofs.Ytecojmafnonkiaa
