/- A veil: what Mask and Hide leave, for every nonce, length and bytes. Conditions: the veil's closure makes masks. -/
import Derived.Test.YtibnmhaipogleaaDoorCopy
import Derived.Test.YtibnmhaipogleaaDoorAesK
import Derived.Test.YtibnmhaipogleaaDoorCalm
import Derived.Test.YtibnmhaipogleaaDoorBytes
import Derived.BigQuiet
set_option linter.unusedVariables false
namespace Go.Proofs.YtibnmhaipogleaaDoor
open Go.RowKit

/-- A new row of bytes. -/
def NewRow (w : World) (n : Nat) (f : Nat → UInt8) (x : Ending) (w' : World) : Prop :=
  ∃ g, x = .returned (.slice (some ⟨g, 0, none⟩) n n) ∧ Row w' g 5 (brr n f) ∧ w.heap.size ≤ g ∧ Below w.heap.size w w'
/-- A veil whose closure makes the masks M. -/
def MaskAt (w : World) (g : Nat) (M : Nat → Nat → Nat → UInt8) : Prop :=
  ∃ id gv, (id = 44 ∨ id = 36) ∧ w.cell? ⟨g, 0, none⟩ = some (.func (.func id) #[] #[.pointer (some ⟨gv, 0, none⟩)]) ∧
    ∀ w', Below w.heap.size w w' → ∀ e s n : Nat, e < 4294967296 → s < 4294967296 → n ≤ 4096 → Calls Tryd.prog id #[.int .u32 (e : Int), .int .u32 (s : Int), .int .i64 (n : Int), .pointer (some ⟨gv, 0, none⟩)] w' (NewRow w' n (M e s))
theorem MaskAt.lt {w : World} {g : Nat} {M : Nat → Nat → Nat → UInt8} (h : MaskAt w g M) : g < w.heap.size := by
  obtain ⟨_, _, _, h, _⟩ := h
  exact World.block_lt_of_cell? w _ h
theorem MaskAt.below {w w' : World} {g : Nat} {M : Nat → Nat → Nat → UInt8} (h : MaskAt w g M) (hb : Below w.heap.size w w') : MaskAt w' g M := by
  have hlt := h.lt
  obtain ⟨id, gv, h1, h2, h3⟩ := h
  exact ⟨id, gv, h1, (hb.cell (p := ⟨g, 0, none⟩) hlt).trans h2, fun w2 hb2 => h3 w2 (hb.trans (hb2.mono hb.size))⟩

theorem mask_far (v : Value) (e s : Nat) (n : Int) (hn : n < 0 ∨ 4096 < n) (w : World) :
    Calls Tryd.prog 52 #[v, .int .u32 (e : Int), .int .u32 (s : Int), .int .i64 n] w fun x w' => x = .returned (.slice none 0 0) ∧ w' = w := by
  by_cases h : n < 0
  · go_enter Tryd.func52, Tryd.ntmps52
    go_wp2
    go_ret
    exact ⟨rfl, rfl⟩
  · have h2 : (4096 : Int) < n := by omega
    clear hn
    go_enter Tryd.func52, Tryd.ntmps52
    go_wp2
    go_ret
    exact ⟨rfl, rfl⟩
theorem mask_nil (e s n : Nat) (hn : n ≤ 4096) (w : World) :
    Calls Tryd.prog 52 #[.pointer none, .int .u32 (e : Int), .int .u32 (s : Int), .int .i64 (n : Int)] w (NewRow w n fun _ => 0) := by
  obtain ⟨i, U⟩ := u8_tab
  have h1 : ¬ (n : Int) < 0 := by omega
  have h2 : ¬ (4096 : Int) < (n : Int) := by omega
  have HN := Lib.hid hn
  clear hn
  go_enter Tryd.func52, Tryd.ntmps52
  go_wp2_with (refine step_make rfl _ _ 29 5 i U rfl n rfl rfl (by have := HN.out; omega) ?_; intro g w1 hr1 hg1 hb1 hs1)
  go_ret
  exact ⟨g, rfl, hr1, by rw [hg1.out]; exact Nat.le_refl _, hb1⟩
theorem mask_any (g : Nat) (M : Nat → Nat → Nat → UInt8) (e s n : Nat) (he : e < 4294967296) (hs : s < 4294967296) (hn : n ≤ 4096) (w : World) (hM : MaskAt w g M) :
    Calls Tryd.prog 52 #[.pointer (some ⟨g, 0, none⟩), .int .u32 (e : Int), .int .u32 (s : Int), .int .i64 (n : Int)] w (NewRow w n (M e s)) := by
  have h1 : ¬ (n : Int) < 0 := by omega
  have h2 : ¬ (4096 : Int) < (n : Int) := by omega
  have HN := Lib.hid hn
  have HE := Lib.hid he
  have HS := Lib.hid hs
  obtain ⟨id, gv, hid, hc, hcall⟩ := hM
  have HC := Lib.hid (hcall w (Below.refl _ _) e s n he hs hn)
  clear hn he hs hcall
  rcases hid with rfl | rfl
  · go_enter Tryd.func52, Tryd.ntmps52
    go_wp2_with (go_at_call 44; refine HC.out.mono ?_; rintro x w1 ⟨g1, rfl, hr, hg, hb⟩)
    go_ret
    exact ⟨g1, rfl, hr, hg, hb⟩
  · go_enter Tryd.func52, Tryd.ntmps52
    go_wp2_with (go_at_call 36; refine HC.out.mono ?_; rintro x w1 ⟨g1, rfl, hr, hg, hb⟩)
    go_ret
    exact ⟨g1, rfl, hr, hg, hb⟩
/-- Bytes behind a mask. -/
def hid (f : Nat → UInt8) (l : List UInt8) (j : Nat) : UInt8 := f j ^^^ l.getD j 0
theorem hide_far (v : Value) (A : Option Addr) (c : Nat) (l : List UInt8) (e s : Nat) (hl : 4096 < l.length) (w : World) :
    Calls Tryd.prog 35 #[v, .int .u32 (e : Int), .int .u32 (s : Int), .slice A l.length c] w fun x w' => x = .returned (.slice none 0 0) ∧ w' = w := by
  have hl' : (4096 : Int) < (l.length : Int) := by omega
  have HL := Lib.hid hl'
  clear hl hl'
  go_enter Tryd.func35, Tryd.ntmps35
  go_wp2_with (go_at_call 52; refine (mask_far v e s _ (.inr HL.out) _).mono ?_; rintro x w1 ⟨rfl, rfl⟩)
  refine wp_loop_rounds 1 ?_
  rw [rounds_succ]
  go_wp2
  go_ret
  exact ⟨rfl, rfl⟩
set_option maxHeartbeats 1000000 in
theorem hide_any (g : Nat) (M : Nat → Nat → Nat → UInt8) (A : Option Addr) (c : Nat) (l : List UInt8) (e s : Nat) (he : e < 4294967296) (hs : s < 4294967296) (hl : l.length ≤ 4096) (w : World) (hM : MaskAt w g M) (hA : Hol w A l) :
    Calls Tryd.prog 35 #[.pointer (some ⟨g, 0, none⟩), .int .u32 (e : Int), .int .u32 (s : Int), .slice A l.length c] w (NewRow w l.length (hid (M e s) l)) := by
  have HA := Lib.hid hA
  have HL := Lib.hid hl
  have HE := Lib.hid he
  have HS := Lib.hid hs
  have HM := Lib.hid hM
  clear hA hl he hs hM
  go_enter Tryd.func35, Tryd.ntmps35
  go_wp2_with (go_at_call 52; refine (mask_any g M e s l.length HE.out HS.out HL.out _ HM.out).mono ?_; rintro x w1 ⟨g1, rfl, hr1, hg1, hb1⟩)
  have HB1 := Lib.hid hb1
  have HG1 := Lib.hid hg1
  clear hb1 hg1
  go_loopw [19] (fun x wr => ∃ k : Nat, k ≤ l.length ∧ x = .int .i64 k ∧ Row wr g1 5 (brr l.length (upto k (hid (M e s) l) (M e s))) ∧ Below w.heap.size w wr) (fun x _ => l.length - (intOf x).toNat)
  case atStart => exact ⟨0, by omega, rfl, by rw [upto_zero]; exact hr1, HB1.out⟩
  case round =>
    clear hr1
    obtain ⟨k, hk, rfl, hR, hB⟩ := hrel
    have hkw : IntKind.i64.wrap ((k : Int) + 1) = (k : Int) + 1 := by rw [IntKind.wrap_i64]; have := HL.out; omega
    by_cases hlt : k < l.length
    · obtain ⟨ga, oa, rfl, _, hc2⟩ := (HA.out.below hB).at_ hlt
      obtain ⟨y, hy⟩ : ∃ y, l[k] = y := ⟨_, rfl⟩
      rw [hy] at hc2
      replace hc2 : wr.cell? ⟨ga, oa + k, none⟩ = some (B y) := hc2
      obtain ⟨z, hz⟩ : ∃ z, M e s k = z := ⟨_, rfl⟩
      have HXY : Hid (hid (M e s) l k = z ^^^ y) := Lib.hid (by
        unfold hid
        rw [hz, List.getD_eq_getElem?_getD, List.getElem?_eq_getElem hlt, hy]
        rfl)
      have c1 : wr.cell? ⟨g1, k, none⟩ = some (B z) := by rw [hR.cell, brr_get _ hlt, upto_self, hz]
      have f1 := hR.free k
      have hki : (k : Int) < (l.length : Int) := by omega
      have HR := Lib.hid hR
      have HB := Lib.hid hB
      clear hR hB hy hz
      go_wp2
      go_region
      go_wp2
      go_roundw
      case rel => exact ⟨k + 1, by omega, by go_num, by rw [← upto_step, ← brr_set, HXY.out]; exact (HR.out.put _ _).drew, (HB.out.setCell HG1.out _).drew⟩
      case measure => simp [intOf]; omega
    · obtain rfl : k = l.length := by omega
      rw [upto_all] at hR
      have HR := Lib.hid hR
      have HB := Lib.hid hB
      clear hR hB
      go_wp2
      go_ret
      exact ⟨g1, rfl, HR.out, HG1.out, HB.out⟩
end Go.Proofs.YtibnmhaipogleaaDoor
