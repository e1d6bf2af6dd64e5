/- Bytes compared; lists of bytes compared. Conditions: those named. -/
import Derived.Test.YtijffkklhgnknaaDoorQw
set_option linter.unusedVariables false
set_option maxRecDepth 20000
namespace Go.Proofs.YtijffkklhgnknaaDoor
open Go.RowKit

theorem string_beq (a b : List UInt8) : ((⟨a.toArray⟩ : ByteArray).toList == (⟨b.toArray⟩ : ByteArray).toList) = decide (a = b) := by
  rw [ByteArray.toList_eq, ByteArray.toList_eq, Bool.eq_iff_iff]
  simp
theorem bequal_any (A B : Option Addr) (n m c d : Nat) (a b : List UInt8) (hn : n = a.length) (hm : m = b.length) (w : World) (hA : Hol w A a) (hB : Hol w B b) :
    Calls Tryd.prog 31 #[.slice A n c, .slice B m d] w fun e w' => e = .returned (.bool (decide (a = b))) ∧ w' = w := by
  have h1 := run_to_string (P := Tryd.prog) w 33 9 5 A c n a hn Tryd.underlying33 Tryd.underlying5 Tryd.underlying9 hA
  have h2 := run_to_string (P := Tryd.prog) w 33 9 5 B d m b hm Tryd.underlying33 Tryd.underlying5 Tryd.underlying9 hB
  have hs := string_beq a b
  generalize (⟨a.toArray⟩ : ByteArray) = S at *
  generalize (⟨b.toArray⟩ : ByteArray) = T at *
  clear hA hB hn hm
  go_enter Tryd.func31, Tryd.ntmps31
  go_wp2
  go_ret
  exact ⟨by rw [← hs]; rfl, rfl⟩
theorem eq_step {P Q : List BV} {k : Nat} {x y : BV} (hx : P[k]? = some x) (hy : Q[k]? = some y) (h : (P.map (·.l)).take k = (Q.map (·.l)).take k) (he : x.l = y.l) : (P.map (·.l)).take (k + 1) = (Q.map (·.l)).take (k + 1) := by
  rw [List.take_add_one, List.take_add_one, h, List.getElem?_map, List.getElem?_map, hx, hy]
  simp [he]
set_option maxHeartbeats 2000000 in
theorem eqfunc_any (A B : Option Addr) (n m c d : Nat) (P Q : List BV) (hmax : n ≤ 1000000) (hn : P.length = n) (hm : Q.length = m) (w : World) (hA : Lies sc 1 w A P) (hB : Lies sc 1 w B Q) (hP : ∀ b ∈ P, Hol w b.A b.l) (hQ : ∀ b ∈ Q, Hol w b.A b.l) :
    Calls Tryd.prog 30 #[.slice A n c, .slice B m d, .func (.func 31) #[] #[]] w fun e w' => e = .returned (.bool (decide (P.map (·.l) = Q.map (·.l)))) ∧ w' = w := by
  obtain ⟨r, hr⟩ : ∃ r : Bool, decide (P.map (·.l) = Q.map (·.l)) = r := ⟨_, rfl⟩
  have HR := Lib.hid hr
  rw [hr]
  clear hr
  have HN := Lib.hid (And.intro hmax (And.intro hn hm))
  have HL := Lib.hid (And.intro hA hB)
  have HH := Lib.hid (And.intro hP hQ)
  clear hA hB hP hQ hmax hn hm
  by_cases hnm : n = m
  · subst hnm
    go_enter Tryd.func30, Tryd.ntmps30
    go_wp2
    go_loopw [17] (fun y wr => ∃ (k : Nat), Hid (k ≤ n) ∧ y = .int .i64 (k : Int) ∧ Hid ((P.map (·.l)).take k = (Q.map (·.l)).take k) ∧ wr = w) (fun y _ => n - (intOf y).toNat)
    case atStart => exact ⟨0, Lib.hid (Nat.zero_le _), rfl, Lib.hid rfl, rfl⟩
    case round =>
      obtain ⟨k, HKL, rfl, HE, rfl⟩ := hrel
      rename World => wr
      by_cases hk : k < n
      · have hki : (k : Int) < (n : Int) := by omega
        have hkw : IntKind.i64.wrap ((k : Int) + 1) = (k : Int) + 1 := by rw [IntKind.wrap_i64]; have := HN.out; omega
        obtain ⟨x, hx⟩ : ∃ x, P[k]? = some x := ⟨_, List.getElem?_eq_getElem (by have := HN.out; omega)⟩
        obtain ⟨y, hy⟩ : ∃ y, Q[k]? = some y := ⟨_, List.getElem?_eq_getElem (by have := HN.out; omega)⟩
        obtain ⟨g0, o0, rfl, hc⟩ := HL.out.1.at_ (List.getElem?_eq_some_iff.1 hx).1
        obtain ⟨g1, o1, rfl, hc1⟩ := HL.out.2.at_ (List.getElem?_eq_some_iff.1 hy).1
        rw [(List.getElem?_eq_some_iff.1 hx).2] at hc
        rw [(List.getElem?_eq_some_iff.1 hy).2] at hc1
        have cx : wr.cell? ⟨g0, o0 + k, none⟩ = some (.slice x.A x.l.length x.c) := by have h9 := hc 0 _ rfl; simpa [bvv] using h9
        have cy : wr.cell? ⟨g1, o1 + k, none⟩ = some (.slice y.A y.l.length y.c) := by have h9 := hc1 0 _ rfl; simpa [bvv] using h9
        have HBE := Lib.hid (bequal_any x.A y.A x.l.length y.l.length x.c y.c x.l y.l rfl rfl wr (HH.out.1 x (List.mem_of_getElem? hx)) (HH.out.2 y (List.mem_of_getElem? hy)))
        have HX := Lib.hid (And.intro hx hy)
        have HK := Lib.hid hk
        clear hc hc1 hx hy hk
        by_cases he : x.l = y.l
        · have HXE := Lib.hid he
          clear he
          go_wp2_with (go_at_call 31; refine HBE.out.mono ?_; rintro e w4 ⟨rfl, rfl⟩; rw [decide_eq_true HXE.out])
          go_roundw
          case rel => exact ⟨k + 1, Lib.hid HK.out, by go_num, Lib.hid (eq_step HX.out.1 HX.out.2 HE.out HXE.out), trivial⟩
          case measure => have := HK.out; simp [intOf]; omega
        · have HXE := Lib.hid he
          clear he
          have hrf : r = false := by
            rw [← HR.out]
            refine decide_eq_false (fun h => HXE.out ?_)
            have h1 := congrArg (fun l => l[k]?) h
            simp only [List.getElem?_map, HX.out.1, HX.out.2, Option.map_some] at h1
            exact Option.some.inj h1
          subst hrf
          go_wp2_with (go_at_call 31; refine HBE.out.mono ?_; rintro e w4 ⟨rfl, rfl⟩; rw [decide_eq_false HXE.out])
          go_ret
          exact ⟨rfl, rfl⟩
      · have hki : ¬ (k : Int) < (n : Int) := by omega
        have hrt : r = true := by
          rw [← HR.out]
          have h1 := HE.out
          rw [List.take_of_length_le (by rw [List.length_map]; have := HN.out; omega), List.take_of_length_le (by rw [List.length_map]; have := HN.out; omega)] at h1
          exact decide_eq_true h1
        subst hrt
        clear hk
        go_wp2
        go_ret
        exact ⟨rfl, rfl⟩
  · have hni : ¬ (n : Int) = (m : Int) := by omega
    have hrf : r = false := by
      rw [← HR.out]
      refine decide_eq_false (fun h => hnm ?_)
      have h1 := congrArg List.length h
      rw [List.length_map, List.length_map] at h1
      have := HN.out
      omega
    subst hrf
    clear hnm
    go_enter Tryd.func30, Tryd.ntmps30
    go_wp2
    go_ret
    exact ⟨rfl, rfl⟩
end Go.Proofs.YtijffkklhgnknaaDoor
