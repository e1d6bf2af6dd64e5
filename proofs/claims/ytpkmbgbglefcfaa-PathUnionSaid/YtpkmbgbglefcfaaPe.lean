/- The reference's comparisons of numbers and of spots: what each call leaves. Conditions: those named. -/
import Derived.Test.YtpkmbgbglefcfaaPm
set_option linter.unusedVariables false
namespace Go.Proofs.Ytpkmbgbglefcfaa
open Go.RowKit

section
variable {P : Program} (w : World)
theorem part_num {t : TypeId} {k : IntKind} (ht : P.underlying t = some (.int k)) {cs : Array Value} {o : Nat} {v : Value} (h : cs[o]? = some v) : (part t cs o).run P w = .ok v w := by
  simp [part, isAgg, run_underlying ht, h]
end
theorem spot_fields : ((Try.prog.fieldsOf 35).toList.map fun f => (f.name, f.type, f.offset)) = [("Level", 3, 0), ("Index", 3, 1)] := by kernel_rfl
theorem spot_guard : Try.prog.eqGuardType Try.prog.depth 35 = false := by kernel_rfl
theorem spot_held : Try.prog.stoodInHeld 35 = false := by kernel_rfl
/-- Two spots, compared. -/
theorem eq_spot (x1 x2 y1 y2 : Int) (b : Bool) (hb : (x1 == y1 && x2 == y2) = b) (w : World) : (Op.equalIn 10000 35 (.agg #[.int .i64 x1, .int .i64 x2]) (.agg #[.int .i64 y1, .int .i64 y2])).run Try.prog w = .ok b w := by
  subst hb
  have hu : Try.prog.underlying 35 = some (.struct (Try.prog.fieldsOf 35)) := by kernel_rfl
  rw [run_equalIn_struct w 9999 _ _ _ hu spot_held]
  have hf := spot_fields
  generalize (Try.prog.fieldsOf 35).toList = fs at hf
  rcases fs with _ | ⟨f0, _ | ⟨f1, _ | ⟨f2, t⟩⟩⟩ <;> simp only [List.map_cons, List.map_nil, List.cons.injEq, Prod.mk.injEq, and_true, reduceCtorEq, and_false, false_and] at hf
  obtain ⟨⟨n0, t0, o0⟩, n1, t1, o1⟩ := hf
  have h1 := fun (a b : Int) w => run_equalIn_int (P := Try.prog) w 9998 3 .i64 .i64 a b Try.underlying3
  have p0 := fun (a b : Int) w => part_num (P := Try.prog) w Try.underlying3 (cs := #[.int .i64 a, .int .i64 b]) (o := 0) (v := .int .i64 a) rfl
  have p1 := fun (a b : Int) w => part_num (P := Try.prog) w Try.underlying3 (cs := #[.int .i64 a, .int .i64 b]) (o := 1) (v := .int .i64 b) rfl
  simp only [Op.eqFields, n0, t0, o0, n1, t1, o1, Sem.run_bind, Sem.run_ite, p0, p1, h1, Result.andThen_ok, Sem.run_pure]
  cases (x1 == y1) <;> cases (x2 == y2) <;> simp

set_option maxHeartbeats 400000 in
theorem ints_any (A B : Option Addr) (c d : Nat) (a b : List Int) (w : World) (hA : HolI w A a) (hB : HolI w B b) (ha : a.length ≤ 9223372036854775807) (hb : b.length ≤ 9223372036854775807) :
    Calls Try.prog 17 #[.slice A a.length c, .slice B b.length d] w fun e w' => e = .returned (.bool (decide (a = b))) ∧ ∃ q, w' = w.drewN q := by
  by_cases hl : a.length = b.length
  · generalize hR : decide (a = b) = R
    have HR := Lib.hid hR
    clear hR
    have hn : ((a.length : Int) != (b.length : Int)) = false := by rw [bne_eq_false_iff_eq]; omega
    generalize hbn : b.length = n at *
    have HL := Lib.hid hl
    have HB := Lib.hid hbn
    clear hl hbn
    have hn2 : (a.length : Int) ≤ (n : Int) := by have := HL.out; omega
    have hn3 : a.length ≤ n := by have := HL.out; omega
    go_enter Try.func17, Try.ntmps17
    go_wp2
    go_loopw [5] (fun i wr => ∃ k : Nat, k ≤ a.length ∧ i = .int .i64 k ∧ Hid (a.take k = b.take k) ∧ ∃ q, wr = w.drewN q) (fun i _ => a.length - (intOf i).toNat)
    case atStart => exact ⟨0, Nat.zero_le _, rfl, Lib.hid (by simp), 0, rfl⟩
    case round =>
      obtain ⟨k, hk, rfl, htk, q, rfl⟩ := hrel
      by_cases hlt : k < a.length
      · have hltb : k < b.length := by have := HL.out; have := HB.out; omega
        obtain ⟨g, o, rfl, _, hc1⟩ := hA.at_ hlt
        obtain ⟨g2, o2, rfl, _, hc2⟩ := hB.at_ hltb
        obtain ⟨x, hx⟩ : ∃ x, a[k] = x := ⟨_, rfl⟩
        obtain ⟨y, hy⟩ : ∃ y, b[k] = y := ⟨_, rfl⟩
        rw [hx] at hc1
        rw [hy] at hc2
        have HX := Lib.hid hx
        have HY := Lib.hid hy
        clear hx hy
        have hkz : (k : Int) < (a.length : Int) := by omega
        have hkz2 : (k : Int) < (n : Int) := by omega
        by_cases hxy : x = y
        · subst hxy
          have htk2 : Hid (a.take (k + 1) = b.take (k + 1)) := by
            refine Lib.hid ?_
            rw [List.take_succ_eq_append_getElem hlt, List.take_succ_eq_append_getElem hltb, htk.out, HX.out, HY.out]
          go_wp2_with fail
          go_quiet (fail)
          go_wp2
          go_roundw
          case rel =>
            exact ⟨k + 1, by omega, by go_num, htk2, _, rfl⟩
          case measure => simp [intOf]; omega
        · have hR : R = false := by
            rw [← HR.out]
            apply decide_eq_false
            intro e
            apply hxy
            subst e
            rw [← HX.out, ← HY.out]
          subst hR
          have hne : (x != y) = true := by
            rw [bne_iff_ne]
            exact hxy
          clear hxy
          go_wp2_with fail
          go_quiet (fail)
          go_wp2
          go_ret
          exact ⟨rfl, _, World.drewN_drewN ..⟩
      · have hR : R = true := by
          rw [← HR.out]
          apply decide_eq_true
          have := htk.out
          rw [List.take_of_length_le (by omega), List.take_of_length_le (by have := HL.out; have := HB.out; omega)] at this
          exact this
        subst hR
        go_wp2
        go_ret
        exact ⟨rfl, _, rfl⟩
  · have hR : decide (a = b) = false := by
      apply decide_eq_false
      intro e
      exact hl (by rw [e])
    rw [hR]
    have hn : ((a.length : Int) != (b.length : Int)) = true := by rw [bne_iff_ne]; omega
    clear hl hR
    go_enter Try.func17, Try.ntmps17
    go_wp2
    go_ret
    exact ⟨rfl, 0, rfl⟩

set_option maxHeartbeats 400000 in
theorem spots_any (A B : Option Addr) (c d : Nat) (a b : List (Int × Int)) (w : World) (hA : HolS w A a) (hB : HolS w B b) (ha : a.length ≤ 1000000) (hb : b.length ≤ 1000000) :
    Calls Try.prog 14 #[.slice A a.length c, .slice B b.length d] w fun e w' => e = .returned (.bool (decide (a = b))) ∧ ∃ q, w' = w.drewN q := by
  by_cases hl : a.length = b.length
  · generalize hR : decide (a = b) = R
    have HR := Lib.hid hR
    clear hR
    have hn : ((a.length : Int) != (b.length : Int)) = false := by rw [bne_eq_false_iff_eq]; omega
    generalize hbn : b.length = n at *
    have HL := Lib.hid hl
    have HB := Lib.hid hbn
    clear hl hbn
    have hn2 : (a.length : Int) ≤ (n : Int) := by have := HL.out; omega
    have hn3 : a.length ≤ n := by have := HL.out; omega
    go_enter Try.func14, Try.ntmps14
    go_wp2
    go_loopw [5] (fun i wr => ∃ k : Nat, k ≤ a.length ∧ i = .int .i64 k ∧ Hid (a.take k = b.take k) ∧ ∃ q, wr = w.drewN q) (fun i _ => a.length - (intOf i).toNat)
    case atStart => exact ⟨0, Nat.zero_le _, rfl, Lib.hid (by simp), 0, rfl⟩
    case round =>
      obtain ⟨k, hk, rfl, htk, q, rfl⟩ := hrel
      by_cases hlt : k < a.length
      · have hltb : k < b.length := by have := HL.out; have := HB.out; omega
        obtain ⟨x, hx⟩ : ∃ x, a[k] = x := ⟨_, rfl⟩
        obtain ⟨y, hy⟩ : ∃ y, b[k] = y := ⟨_, rfl⟩
        have hx' : a[k]? = some x := by rw [List.getElem?_eq_getElem hlt, hx]
        have hy' : b[k]? = some y := by rw [List.getElem?_eq_getElem hltb, hy]
        obtain ⟨g, rfl, _, hc1, hd1⟩ := hA.at_ hx'
        obtain ⟨g2, rfl, _, hc2, hd2⟩ := hB.at_ hy'
        obtain ⟨x1, x2⟩ := x
        obtain ⟨y1, y2⟩ := y
        have HX := Lib.hid hx
        have HY := Lib.hid hy
        clear hx hy hx' hy'
        have hkz : (k : Int) < (a.length : Int) := by omega
        have hkz2 : (k : Int) < (n : Int) := by omega
        have hG := spot_guard
        by_cases hxy : (x1, x2) = (y1, y2)
        · simp only [Prod.mk.injEq] at hxy
          obtain ⟨rfl, rfl⟩ := hxy
          have hE := eq_spot x1 x2 x1 x2 true (by simp)
          have htk2 : Hid (a.take (k + 1) = b.take (k + 1)) := by
            refine Lib.hid ?_
            rw [List.take_succ_eq_append_getElem hlt, List.take_succ_eq_append_getElem hltb, htk.out, HX.out, HY.out]
          go_wp2_with fail
          go_quiet (fail)
          go_wp2
          go_roundw
          case rel =>
            exact ⟨k + 1, by omega, by go_num, htk2, _, rfl⟩
          case measure => simp [intOf]; omega
        · have hE := eq_spot x1 x2 y1 y2 false (by
            cases h : (x1 == y1 && x2 == y2)
            · rfl
            · simp at h
              exact absurd (by rw [h.1, h.2]) hxy)
          have hR : R = false := by
            rw [← HR.out]
            apply decide_eq_false
            intro e
            apply hxy
            subst e
            rw [← HX.out, ← HY.out]
          subst hR
          clear hxy
          go_wp2_with fail
          go_quiet (fail)
          go_wp2
          go_ret
          exact ⟨rfl, _, World.drewN_drewN ..⟩
      · have hR : R = true := by
          rw [← HR.out]
          apply decide_eq_true
          have := htk.out
          rw [List.take_of_length_le (by omega), List.take_of_length_le (by have := HL.out; have := HB.out; omega)] at this
          exact this
        subst hR
        go_wp2
        go_ret
        exact ⟨rfl, _, rfl⟩
  · have hR : decide (a = b) = false := by
      apply decide_eq_false
      intro e
      exact hl (by rw [e])
    rw [hR]
    have hn : ((a.length : Int) != (b.length : Int)) = true := by rw [bne_iff_ne]; omega
    clear hl hR
    go_enter Try.func14, Try.ntmps14
    go_wp2
    go_ret
    exact ⟨rfl, 0, rfl⟩
end Go.Proofs.Ytpkmbgbglefcfaa
