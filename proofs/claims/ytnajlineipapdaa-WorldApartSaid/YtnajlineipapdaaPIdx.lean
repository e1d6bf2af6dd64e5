/- The library's IndexFunc and DeleteFunc at waiting writes, the question being of which block one is. Conditions: the row lies there. -/
import Derived.Test.YtnajlineipapdaaPApi
set_option linter.unusedVariables false
namespace Go.Proofs.Ytnajlineipapdaa
open Go.RowKit

section
variable {b : Nat} {w : World} {A : Option Addr} {c gc a : Nat} {rs : List (Nat × BV)}
theorem row_at {w : World} {n0 : Nat} (h : Writes n0 w A rs) {k : Nat} {p : Nat × BV} (hp : rs[k]? = some p) : ∃ g, A = some ⟨g, 0, none⟩ ∧ w.cell? ⟨g, k * 2, none⟩ = some (.int .i64 (p.1 : Int)) ∧ w.cell? ⟨g, k * 2 + 1, none⟩ = some (.slice p.2.A p.2.l.length p.2.c) := by
  rcases h with rfl | ⟨g, e, hg, hc⟩
  · simp at hp
  · exact ⟨g, e, hc k p hp⟩
set_option maxHeartbeats 1000000 in
theorem idx_none (hbig : rs.length ≤ 1000000) (hW : Writes w.heap.size w A rs) (hgc : w.cell? ⟨gc, 0, none⟩ = some (.int .i64 (a : Int))) (hno : ∀ p ∈ rs, p.1 ≠ a) :
    Calls Try.prog 63 #[.slice A rs.length c, .func (.func 62) #[] #[.pointer (some ⟨gc, 0, none⟩)]] w fun e w' => e = .returned (.int .i64 (-1)) ∧ Below w.heap.size w w' := by
  have HBIG := Lib.hid hbig
  have HW := Lib.hid hW
  have HNO := Lib.hid hno
  have HGC := Lib.hid hgc
  have HGL := Lib.hid (World.block_lt_of_cell? w _ hgc)
  clear hbig hW hno hgc
  go_enter Try.func63, Try.ntmps63
  go_wp2
  go_loopw [8] (fun x wr => ∃ k : Nat, k ≤ rs.length ∧ x = .int .i64 (k : Int) ∧ Below w.heap.size w wr) (fun x _ => rs.length - (intOf x).toNat)
  case atStart => exact ⟨0, by omega, rfl, Below.refl _ _⟩
  case round =>
    obtain ⟨k, hk, rfl, hB⟩ := hrel
    have hkw : IntKind.i64.wrap ((k : Int) + 1) = (k : Int) + 1 := by rw [IntKind.wrap_i64]; have := HBIG.out; omega
    have HB := Lib.hid hB
    by_cases hlt : k < rs.length
    · have hki : (k : Int) < (rs.length : Int) := by omega
      have hk0 : (0 : Int) ≤ (k : Int) := by omega
      obtain ⟨p, hp⟩ : ∃ p, rs[k]? = some p := ⟨_, List.getElem?_eq_getElem hlt⟩
      obtain ⟨g2, rfl, p0, p1⟩ := row_at (HW.out.below hB) hp
      have hne : ((p.1 : Int) == (a : Int)) = false := beq_false_of_ne (by have := HNO.out p (List.mem_of_getElem? hp); omega)
      have HCG := Lib.hid ((hB.cell (p := ⟨gc, 0, none⟩) HGL.out).trans HGC.out)
      clear hp hB
      go_wp2_with (go_at_call 62; refine (of1_any (p.1 : Int) (a : Int) _ gc _ HCG.out).mono ?_; rintro e5 w5 ⟨rfl, rfl⟩; rw [hne])
      go_roundw
      case rel => exact ⟨k + 1, by omega, by go_num, HB.out.alloc HB.out.size _⟩
      case measure => simp [intOf]; omega
    · have hki : ¬ (k : Int) < (rs.length : Int) := by omega
      clear hB
      go_wp2
      go_ret
      exact ⟨rfl, HB.out⟩
set_option maxHeartbeats 1000000 in
theorem idx_some (hbig : rs.length ≤ 1000000) (hW : Writes w.heap.size w A rs) (hgc : w.cell? ⟨gc, 0, none⟩ = some (.int .i64 (a : Int))) (m : Nat) (q : Nat × BV) (hm : rs[m]? = some q) (hq : q.1 = a) (hno : ∀ j p, j < m → rs[j]? = some p → p.1 ≠ a) :
    Calls Try.prog 63 #[.slice A rs.length c, .func (.func 62) #[] #[.pointer (some ⟨gc, 0, none⟩)]] w fun e w' => e = .returned (.int .i64 (m : Int)) ∧ Below w.heap.size w w' := by
  have HBIG := Lib.hid hbig
  have HW := Lib.hid hW
  have HNO := Lib.hid hno
  have HGC := Lib.hid hgc
  have HM := Lib.hid hm
  have HQ := Lib.hid hq
  have HML := Lib.hid (List.getElem?_eq_some_iff.1 hm).1
  have HGL := Lib.hid (World.block_lt_of_cell? w _ hgc)
  clear hbig hW hno hgc hm hq
  go_enter Try.func63, Try.ntmps63
  go_wp2
  go_loopw [8] (fun x wr => ∃ k : Nat, k ≤ m ∧ x = .int .i64 (k : Int) ∧ Below w.heap.size w wr) (fun x _ => rs.length - (intOf x).toNat)
  case atStart => exact ⟨0, by omega, rfl, Below.refl _ _⟩
  case round =>
    obtain ⟨k, hk, rfl, hB⟩ := hrel
    have hkw : IntKind.i64.wrap ((k : Int) + 1) = (k : Int) + 1 := by rw [IntKind.wrap_i64]; have := HBIG.out; have := HML.out; omega
    have HB := Lib.hid hB
    have hlt : k < rs.length := by have := HML.out; omega
    have hki : (k : Int) < (rs.length : Int) := by omega
    have hk0 : (0 : Int) ≤ (k : Int) := by omega
    obtain ⟨p, hp⟩ : ∃ p, rs[k]? = some p := ⟨_, List.getElem?_eq_getElem hlt⟩
    obtain ⟨g2, rfl, p0, p1⟩ := row_at (HW.out.below hB) hp
    have HCG := Lib.hid ((hB.cell (p := ⟨gc, 0, none⟩) HGL.out).trans HGC.out)
    have HLT := Lib.hid hlt
    by_cases hkm : k < m
    · have hne : ((p.1 : Int) == (a : Int)) = false := beq_false_of_ne (by have := HNO.out k p hkm hp; omega)
      have HKM := Lib.hid hkm
      clear hp hB hlt hkm hk
      go_wp2_with (go_at_call 62; refine (of1_any (p.1 : Int) (a : Int) _ gc _ HCG.out).mono ?_; rintro e5 w5 ⟨rfl, rfl⟩; rw [hne])
      go_roundw
      case rel => exact ⟨k + 1, HKM.out, by go_num, HB.out.alloc HB.out.size _⟩
      case measure => have := HLT.out; simp [intOf]; omega
    · obtain rfl : k = m := by omega
      have hne : ((p.1 : Int) == (a : Int)) = true := by
        have e1 := HM.out
        rw [hp] at e1
        injection e1 with e1
        rw [e1, HQ.out]
        simp
      clear hp hB hlt hkm hk
      go_wp2_with (go_at_call 62; refine (of1_any (p.1 : Int) (a : Int) _ gc _ HCG.out).mono ?_; rintro e5 w5 ⟨rfl, rfl⟩; rw [hne])
      go_ret
      exact ⟨rfl, HB.out.alloc HB.out.size _⟩
end
end Go.Proofs.Ytnajlineipapdaa
