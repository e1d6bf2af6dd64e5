/- Two neighbouring runs of a row's entries, exchanged: rotate. Conditions: neither is empty. -/
import Derived.Test.YtijffkklhgnknaaDoorQh
set_option linter.unusedVariables false
set_option maxRecDepth 20000
namespace Go.Proofs.YtijffkklhgnknaaDoor
open Go.RowKit

set_option maxHeartbeats 4000000 in
theorem rotate_any (gr n cp a m b : Nat) (F : Value) (P X Y S : List Ent) (Z : List Value) (hP : P.length = a) (hX : a + X.length = m) (hY : m + Y.length = b) (hn : b + S.length = n) (hx0 : 0 < X.length) (hy0 : 0 < Y.length) (hmax : n ≤ 1000000) (w : World)
    (h : ER w gr (P ++ (X ++ (Y ++ S))) Z) : Calls Tryd.prog 87 #[.slice (some ⟨gr, 0, none⟩) n cp, .int .i64 (a : Int), .int .i64 (m : Int), .int .i64 (b : Int), F] w fun e w' => e = .returned (.tuple #[]) ∧ ER w' gr (P ++ (Y ++ (X ++ S))) Z ∧ Chg [gr] w w' := by
  have H := Lib.hid h
  obtain ⟨T, hT⟩ : ∃ T, P ++ (Y ++ (X ++ S)) = T := ⟨_, rfl⟩
  obtain ⟨i0, hi0⟩ : ∃ i0, X.length = i0 := ⟨_, rfl⟩
  obtain ⟨j0, hj0⟩ : ∃ j0, Y.length = j0 := ⟨_, rfl⟩
  rw [hi0] at hX hx0
  rw [hj0] at hY hy0
  have HX := Lib.hid (p := P.length = a ∧ X.length = i0 ∧ Y.length = j0 ∧ a + i0 = m ∧ m + j0 = b ∧ b + S.length = n ∧ n ≤ 1000000 ∧ 0 < i0 ∧ 0 < j0) ⟨hP, hi0, hj0, hX, hY, hn, hmax, hx0, hy0⟩
  have HT := Lib.hid hT
  rw [hT]
  have hw1 : IntKind.i64.wrap ((m : Int) - (a : Int)) = (i0 : Int) := by rw [IntKind.wrap_i64]; omega
  have hw2 : IntKind.i64.wrap ((b : Int) - (m : Int)) = (j0 : Int) := by rw [IntKind.wrap_i64]; omega
  clear h hT hi0 hj0 hX hx0 hY hy0 hP hn hmax
  go_enter Tryd.func87, Tryd.ntmps87
  go_wp2
  go_loopw [10, 11] (fun x y wr => ∃ (i j : Nat) (P X Y S : List Ent), x = .int .i64 (i : Int) ∧ y = .int .i64 (j : Int) ∧ Hid (X.length = i ∧ Y.length = j ∧ 0 < i ∧ 0 < j ∧ P.length + i = m ∧ m + j + S.length = n) ∧ Hid (P ++ (Y ++ (X ++ S)) = T) ∧ Hid (ER wr gr (P ++ (X ++ (Y ++ S))) Z) ∧ Hid (Chg [gr] w wr)) (fun x y _ => (intOf x).toNat + (intOf y).toNat)
  case atStart => exact ⟨i0, j0, P, X, Y, S, rfl, rfl, Lib.hid (by have := HX.out; omega), HT, H, Lib.hid (Chg.refl _ _)⟩
  case round =>
    clear H HT hw1 hw2
    obtain ⟨i, j, P, X, Y, S, rfl, rfl, HL, HT, HR, HC⟩ := hrel
    rename World => wo
    have HN := Lib.hid (p := m + j + S.length = n ∧ n ≤ 1000000) ⟨by have := HL.out; omega, by have := HX.out; omega⟩
    obtain ⟨p, hp⟩ : ∃ p, m - i = p := ⟨_, rfl⟩
    have HPP := Lib.hid (p := P.length = p ∧ p + i = m) (by have := HL.out; omega)
    have hpw : IntKind.i64.wrap ((m : Int) - (i : Int)) = (p : Int) := by rw [IntKind.wrap_i64]; have := HL.out; have := HN.out; omega
    clear hp
    rcases Nat.lt_trichotomy i j with hij | hij | hij
    · have h1 : ((i : Int) != (j : Int)) = true := by rw [bne_iff_ne]; omega
      have h1n : ¬ (i : Int) = (j : Int) := by omega
      have h2 : ¬ (j : Int) < (i : Int) := by omega
      obtain ⟨d, hd⟩ : ∃ d, j - i = d := ⟨_, rfl⟩
      obtain ⟨q, hq⟩ : ∃ q, m + d = q := ⟨_, rfl⟩
      obtain ⟨mj, hmj⟩ : ∃ mj, m + j = mj := ⟨_, rfl⟩
      have hmw : IntKind.i64.wrap ((m : Int) + (j : Int)) = (mj : Int) := by rw [IntKind.wrap_i64]; have := HL.out; have := HN.out; omega
      have hqw : IntKind.i64.wrap ((mj : Int) - (i : Int)) = (q : Int) := by rw [IntKind.wrap_i64]; have := HL.out; have := HN.out; omega
      have hdw : IntKind.i64.wrap ((j : Int) - (i : Int)) = (d : Int) := by rw [IntKind.wrap_i64]; have := HL.out; have := HN.out; omega
      obtain ⟨Y1, Y2, hY, hY1, hY2⟩ : ∃ Y1 Y2, Y = Y1 ++ Y2 ∧ Y1.length = d ∧ Y2.length = i := ⟨Y.take d, Y.drop d, (List.take_append_drop _ _).symm, by rw [List.length_take]; have := HL.out; omega, by rw [List.length_drop]; have := HL.out; omega⟩
      have HSW := Lib.hid (swaprange_any gr n cp p q i F P X Y1 Y2 S Z HL.out.1 hY2 HPP.out.1 (by have := HPP.out; omega) (by have := HPP.out; have := HN.out; omega) HN.out.2 wo (by have h9 := HR.out; rw [hY] at h9; simpa only [List.append_assoc] using h9))
      have HD := Lib.hid (p := j = d + i ∧ 0 < d) (by omega)
      have HY := Lib.hid (p := Y = Y1 ++ Y2 ∧ Y1.length = d ∧ Y2.length = i) ⟨hY, hY1, hY2⟩
      clear hd hq hmj hij hY hY1 hY2
      go_wp2_with (go_at_call 88; refine HSW.out.mono ?_; rintro e w2 ⟨rfl, hr, hc⟩
                   have HR2 := Lib.hid hr
                   have HC2 := Lib.hid (HC.out.trans hc (fun z hz => .inl hz))
                   clear hr hc)
      go_roundw
      case rel => exact ⟨i, d, P, Y2, Y1, X ++ S, rfl, rfl, Lib.hid (by have h1 := HL.out; have h2 := HD.out; have h3 := HY.out; rw [List.length_append]; omega), Lib.hid (by rw [← HT.out, HY.out.1]; simp only [List.append_assoc]), Lib.hid (by have h9 := HR2.out; simpa only [List.append_assoc] using h9), HC2⟩
      case measure => have h1 := HL.out; have h2 := HD.out; simp [intOf]; omega
    · subst hij
      have h1 : ((i : Int) != (i : Int)) = false := by simp
      have HSW := Lib.hid (swaprange_any gr n cp p m i F P X [] Y S Z HL.out.1 HL.out.2.1 HPP.out.1 (by have := HPP.out; simp; omega) (by have := HPP.out; have := HN.out; simp; omega) HN.out.2 wo (by simpa only [List.nil_append] using HR.out))
      go_wp2_with (go_at_call 88; refine HSW.out.mono ?_; rintro e w2 ⟨rfl, hr, hc⟩
                   have HR2 := Lib.hid hr
                   have HC2 := Lib.hid (HC.out.trans hc (fun z hz => .inl hz))
                   clear hr hc)
      go_end0
      exact ⟨rfl, by rw [← HT.out]; simpa only [List.nil_append] using HR2.out, HC2.out⟩
    · have h1 : ((i : Int) != (j : Int)) = true := by rw [bne_iff_ne]; omega
      have h1n : ¬ (i : Int) = (j : Int) := by omega
      have h2 : (j : Int) < (i : Int) := by omega
      obtain ⟨d, hd⟩ : ∃ d, i - j = d := ⟨_, rfl⟩
      have hdw : IntKind.i64.wrap ((i : Int) - (j : Int)) = (d : Int) := by rw [IntKind.wrap_i64]; have := HL.out; have := HN.out; omega
      obtain ⟨X1, X2, hX, hX1, hX2⟩ : ∃ X1 X2, X = X1 ++ X2 ∧ X1.length = j ∧ X2.length = d := ⟨X.take j, X.drop j, (List.take_append_drop _ _).symm, by rw [List.length_take]; have := HL.out; omega, by rw [List.length_drop]; have := HL.out; omega⟩
      have HSW := Lib.hid (swaprange_any gr n cp p m j F P X1 X2 Y S Z hX1 HL.out.2.1 HPP.out.1 (by have := HPP.out; omega) (by have := HPP.out; have := HN.out; omega) HN.out.2 wo (by have h9 := HR.out; rw [hX] at h9; simpa only [List.append_assoc] using h9))
      have HD := Lib.hid (p := i = d + j ∧ 0 < d) (by omega)
      have HXX := Lib.hid (p := X = X1 ++ X2 ∧ X1.length = j ∧ X2.length = d) ⟨hX, hX1, hX2⟩
      clear hd hij hX hX1 hX2
      go_wp2_with (go_at_call 88; refine HSW.out.mono ?_; rintro e w2 ⟨rfl, hr, hc⟩
                   have HR2 := Lib.hid hr
                   have HC2 := Lib.hid (HC.out.trans hc (fun z hz => .inl hz))
                   clear hr hc)
      go_roundw
      case rel => exact ⟨d, j, P ++ Y, X2, X1, S, rfl, rfl, Lib.hid (by have h1 := HL.out; have h2 := HD.out; have h3 := HXX.out; have h4 := HPP.out; rw [List.length_append]; omega), Lib.hid (by rw [← HT.out, HXX.out.1]; simp only [List.append_assoc]), Lib.hid (by have h9 := HR2.out; simpa only [List.append_assoc] using h9), HC2⟩
      case measure => have h1 := HL.out; have h2 := HD.out; simp [intOf]; omega
end Go.Proofs.YtijffkklhgnknaaDoor
