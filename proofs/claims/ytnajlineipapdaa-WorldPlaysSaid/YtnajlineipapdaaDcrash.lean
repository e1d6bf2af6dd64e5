/- The reference's disk: Crash. Conditions: the disk lies there. -/
import Derived.Test.YtnajlineipapdaaMgDsync
set_option linter.unusedVariables false
namespace Go.Proofs.Ytnajlineipapdaa
open Go.RowKit

section
variable {b : Nat} {w : World} {g : Nat} {v1 v2 v3 v4 : Value} {ss : List BV} {rs al : List (Nat × BV)} {ts : List (Int × Int × BV)}
theorem HolV.chg {F : List Nat} {w w' : World} {A : Option Addr} {vs : List Value} (h : HolV w A vs) (hc : Chg F w w') (hn : ∀ g o, A = some ⟨g, o, none⟩ → vs ≠ [] → g ∉ F) : HolV w' A vs := by
  rcases h with rfl | ⟨g, o, rfl, hcell⟩
  · exact .inl rfl
  · by_cases hl : vs = []
    · exact .inl hl
    · exact .inr ⟨g, o, rfl, fun j x hx => hc.cell (hcell j x hx) (hn g o rfl hl)⟩
set_option maxRecDepth 20000 in
set_option maxHeartbeats 2000000 in
theorem dcrash_any (h : RDisk b w g v1 v2 v3 v4 ss rs al ts) (hr : rs.length ≤ 1000000) (K : Option Addr) (kc : Nat) (kl : List Bool) (hK : HolV w K (kl.map Value.bool)) (hKn : ∀ g0 o, K = some ⟨g0, o, none⟩ → kl.map Value.bool ≠ [] → g0 ∉ foot g v1 v2 v3 v4) :
    Calls Try.prog 23 #[.pointer (some ⟨g, 0, none⟩), .slice K kl.length kc] w fun e w' => e = .returned (.tuple #[]) ∧
      RDisk b w' g v1 (.slice none 0 0) v3 v4 (syncK (fun i => kl.getD i false) rs ss rs.length) [] al ts ∧ Chg (foot g v1 v2 v3 v4) w w' := by
  obtain ⟨A2, k2, rfl⟩ := own_sl h.o2
  have H := Lib.hid h
  have HRL := Lib.hid hr
  have HKK := Lib.hid hK
  have HKN := Lib.hid hKn
  have HM := Lib.hid (p := ∀ p ∈ rs, p.1 < ss.length) fun p hp => (h.m2 p hp).2.2
  clear h hr hK hKn
  go_enter Try.func23, Try.ntmps23
  go_wp2
  go_loopw [4] (fun x wr => ∃ k : Nat, k ≤ rs.length ∧ x = .int .i64 (k : Int) ∧ RDisk b wr g v1 (.slice A2 rs.length k2) v3 v4 (syncK (fun i => kl.getD i false) rs ss k) rs al ts ∧ Chg (foot g v1 (.slice A2 rs.length k2) v3 v4) w wr) (fun x _ => rs.length - (intOf x).toNat)
  case atStart => exact ⟨0, by omega, rfl, H.out, Chg.refl _ _⟩
  case round =>
    obtain ⟨k, hk, rfl, hD, hC⟩ := hrel
    have hkw : IntKind.i64.wrap ((k : Int) + 1) = (k : Int) + 1 := by rw [IntKind.wrap_i64]; have := HRL.out; omega
    have c0 := hD.c0
    have c1 := hD.c1
    have HD := Lib.hid hD
    have HC := Lib.hid hC
    have HKW := Lib.hid (HKK.out.chg hC HKN.out)
    clear hD hC
    by_cases hlt : k < rs.length
    · have hki : (k : Int) < (rs.length : Int) := by omega
      have hk0 : (0 : Int) ≤ (k : Int) := by omega
      obtain ⟨p, hp⟩ : ∃ p, rs[k]? = some p := ⟨_, List.getElem?_eq_getElem hlt⟩
      by_cases hkl : k < kl.length
      · have hkli : (k : Int) < (kl.length : Int) := by omega
        obtain ⟨t, htk⟩ : ∃ t, kl[k]? = some t := ⟨_, List.getElem?_eq_getElem hkl⟩
        obtain ⟨gk, ok, rfl, _, ck⟩ := HKW.out.at_ (j := k) (x := .bool t) (by rw [List.getElem?_map, htk]; rfl)
        have HKT0 := Lib.hid (p := kl.getD k false = t) (by rw [List.getD_eq_getElem?_getD, htk]; rfl)
        clear htk
        cases t with
        | false =>
          have HPK := Lib.hid hp
          clear hp
          go_wp2
          go_roundw
          case rel => exact ⟨k + 1, by omega, by go_num, by rw [syncK_step HPK.out, if_neg (by rw [HKT0.out]; decide)]; exact HD.out, HC.out⟩
          case measure => simp [intOf]; omega
        | true =>
          have HKT := HKT0
          obtain ⟨g2, k2', e2, _, _, hc2⟩ := own_rec wcs_len HD.out.o2 hp (by omega)
          simp only [Value.slice.injEq] at e2
          obtain ⟨rfl, _, _⟩ := e2
          have p0 := hc2 0 _ rfl
          have p1 := hc2 1 _ rfl
          rw [Nat.add_zero] at p0
          unfold bvv at p1
          have hpl : p.1 < (syncK (fun i => kl.getD i false) rs ss k).length := by rw [syncK_len]; exact HM.out p (List.mem_of_getElem? hp)
          obtain ⟨y, hy⟩ : ∃ y, (syncK (fun i => kl.getD i false) rs ss k)[p.1]? = some y := ⟨_, List.getElem?_eq_getElem hpl⟩
          obtain ⟨g1, k1, rfl, _, _, hc1⟩ := own_rec sc_len HD.out.o1 hy (by omega)
          have d0 := hc1 0 _ rfl
          rw [Nat.mul_one, Nat.add_zero] at d0
          unfold bvv at d0
          have f0 : wr.frozen? ⟨g1, p.1, none⟩ = false := HD.out.o1.frozenAt p.1
          obtain ⟨S, hS⟩ : ∃ S, S = syncK (fun i => kl.getD i false) rs ss k := ⟨_, rfl⟩
          have hi1 : (0 : Int) ≤ (p.1 : Int) := by omega
          have hi2 : (p.1 : Int) < (S.length : Int) := by rw [hS]; omega
          rw [← hS] at c0 HD
          have HS := Lib.hid hS
          have HPK := Lib.hid hp
          have HPL := Lib.hid (p := p.1 < S.length) (by omega)
          clear hp hc2 hc1 hpl hy hS
          go_wp2
          go_still_tail 21, (by kernel_rfl)
          change wpList _ _ _ _ _ wr.drew
          have d0z : wr.drew.cell? ⟨g1, p.1, none⟩ = some (.slice y.A y.l.length y.c) := d0
          have f0z : wr.drew.frozen? ⟨g1, p.1, none⟩ = false := f0
          have hx := HD.out.m2 p (List.mem_of_getElem? HPK.out)
          obtain ⟨hs1, hs2⟩ := (HD.out.kept (below_drw wr)).sync p.1 p.2 HPL.out ⟨hx.1.below (below_drw wr), hx.2.1⟩
          have HS1 := Lib.hid hs1
          have HS2 := Lib.hid (HC.out.drew.trans hs2 (fun x hx => .inl hx))
          clear hs1 hs2 hx c0 c1 p0 p1 d0 f0 HD HC
          unfold bvv at HS1 HS2
          generalize wr.drew = wz at *
          go_wp2
          go_roundw
          case rel => exact ⟨k + 1, by omega, by go_num, by rw [syncK_step HPK.out, if_pos HKT.out, ← HS.out]; exact HS1.out, HS2.out⟩
          case measure => simp [intOf]; omega
      · have hkli : ¬ (k : Int) < (kl.length : Int) := by omega
        have HKT0 := Lib.hid (p := kl.getD k false = false) (by rw [List.getD_eq_getElem?_getD, List.getElem?_eq_none (by omega)]; rfl)
        have HPK := Lib.hid hp
        clear hp
        go_wp2
        go_roundw
        case rel => exact ⟨k + 1, by omega, by go_num, by rw [syncK_step HPK.out, if_neg (by rw [HKT0.out]; decide)]; exact HD.out, HC.out⟩
        case measure => simp [intOf]; omega
    · obtain rfl : k = rs.length := by omega
      have f1 : wr.frozen? ⟨g, 1, none⟩ = false := HD.out.cells.free 1
      obtain ⟨hw1, hw2⟩ := HD.out.waits (v := .slice none 0 0) (rs' := []) (World.ownsRow_nil _ _ _ _) (.inl rfl) (by simp)
      have HW1 := Lib.hid hw1
      have HW2 := Lib.hid (HC.out.trans hw2 (fun x hx => .inl hx))
      clear hw1 hw2 HD HC H
      go_wp2
      go_end0
      exact ⟨rfl, HW1.out, HW2.out⟩
end
end Go.Proofs.Ytnajlineipapdaa
