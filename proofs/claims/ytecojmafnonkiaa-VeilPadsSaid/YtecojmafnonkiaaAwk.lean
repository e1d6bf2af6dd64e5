/- The laws' first test, and what a veil of a table is. No conditions. -/
import Derived.Test.YtecojmafnonkiaaIdeal
import Derived.Test.YtecojmafnonkiaaMask
set_option linter.unusedVariables false
namespace Go.Proofs.Ytecojmafnonkiaa
open Go.RowKit

/-- A table's mask. -/
def pmask (L : Nat → Nat → List UInt8) (e s j : Nat) : UInt8 := (L e s).getD j 0
theorem IdealAt.mask {B : Nat} {w : World} {g : Nat} {L : Nat → Nat → List UInt8} (h : IdealAt B w g L) : MaskAt w g (pmask L) := by
  obtain ⟨_, gv, h1, h2⟩ := h
  exact ⟨26, gv, .inr rfl, h1, fun w' hb e s n he hs hn => tab_any B gv L e s n he hs hn w' (h2.below hb)⟩
/-- aes.New of what isn't a key. -/
theorem anew_bad (A : Option Addr) (n c : Nat) (hn : n ≠ 32) (w : World) : Calls Try.prog 18 #[.slice A n c] w fun e w' => e = .returned (.tuple #[.pointer none, .int .i64 201]) ∧ w' = w := by
  have hll : ¬ (n : Int) = 32 := by omega
  go_enter Try.func18, Try.ntmps18
  go_wp2
  go_ret2
  exact ⟨rfl, rfl⟩
theorem vnew_bad (A : Option Addr) (n c : Nat) (hn : n ≠ 32) (w : World) : Calls Try.prog 9 #[.slice A n c] w fun e w' => e = .returned (.tuple #[.pointer none, .int .i64 201]) ∧ Below w.heap.size w w' := by
  go_enter Try.func9, Try.ntmps9
  go_wp2_with (go_at_call 18; refine (anew_bad A n c hn _).mono ?_; rintro e w1 ⟨rfl, rfl⟩)
  go_ret2
  exact ⟨rfl, (Below.refl _ _).alloc (Nat.le_refl _) _⟩

/-- The pad of the first test. -/
def pad0 (g : Nat) : PadV := ⟨1, 2, some ⟨g, 0, none⟩, 2, [15, 240]⟩
theorem one_at {w : World} {g gb e s : Nat} {A : Option Addr} {c : Nat} {l : List UInt8} (h0 : w.cell? ⟨g, 0, none⟩ = some (.int .u32 (e : Int))) (h1 : w.cell? ⟨g, 1, none⟩ = some (.int .u32 (s : Int))) (h2 : w.cell? ⟨g, 2, none⟩ = some (.slice A l.length c))
    (hA : Hol w A l) (hl : l.length ≤ 1099511627776) : PadsAt w (some ⟨g, 0, none⟩) [⟨e, s, A, c, l⟩] := by
  intro j p hp
  match j, hp with
  | 0, hp =>
    simp at hp
    subst hp
    exact ⟨g, 0, rfl, h0, h1, h2, hA, hl⟩
theorem one_ok {e s : Nat} {A : Option Addr} {c : Nat} {l : List UInt8} (he : e < 4294967296) (hs : s < 4294967296) (hl : l.length ≤ c) : PadsOk [⟨e, s, A, c, l⟩] := by
  intro j p hp
  match j, hp with
  | 0, hp =>
    simp at hp
    subst hp
    exact ⟨he, hs, hl⟩
theorem one_hit (e s : Nat) (A : Option Addr) (c : Nat) (l : List UInt8) : cutL [⟨e, s, A, c, l⟩] e s = l.take 4096 := by
  simp [cutL, hit]
theorem list_at {w : World} {g : Nat} {l : List UInt8} (h : ∀ j, j < l.length → w.cell? ⟨g, j, none⟩ = (bc l)[j]?) : Hol w (some ⟨g, 0, none⟩) l := by
  refine .inr ⟨g, 0, rfl, fun j x hx => ?_⟩
  rw [Nat.zero_add, h j (List.getElem?_eq_some_iff.1 hx).1]
  exact get_bc hx

set_option maxRecDepth 20000 in
theorem awake_any (w : World) : Calls Try.prog 8 #[] w fun e w' => e = .returned (.bool true) ∧ Below w.heap.size w w' := by
  obtain ⟨i, U⟩ := u8_tab
  go_enter Try.func8, Try.ntmps8
  go_wp2_with fail
  have hP : PadsAt ((w.alloc (.cells #[.int .u8 15, .int .u8 240] 5)).alloc (.cells #[.int .u32 1, .int .u32 2, .slice (some ⟨w.heap.size, 0, none⟩) 2 2] 38)) (some ⟨w.heap.size + 1, 0, none⟩) [⟨1, 2, some ⟨w.heap.size, 0, none⟩, 2, [15, 240]⟩] := by
    have hz : (w.alloc (.cells #[.int .u8 15, .int .u8 240] 5)).heap.size = w.heap.size + 1 := by simp
    refine one_at (gb := 0) ?_ ?_ ?_ ?_ (by decide)
    · rw [← hz]; simp
    · rw [← hz]; simp
    · rw [← hz]; simp
    · have hl : Hol (w.alloc (.cells #[.int .u8 15, .int .u8 240] 5)) (some ⟨w.heap.size, 0, none⟩) [15, 240] := list_at fun j hj => by
        match j, hj with
        | 0, _ => simp [bc]
        | 1, _ => simp [bc]
      exact hl.below ((Below.refl _ _).alloc (Nat.le_refl _) _)
  have hb0 : Below w.heap.size w ((w.alloc (.cells #[.int .u8 15, .int .u8 240] 5)).alloc (.cells #[.int .u32 1, .int .u32 2, .slice (some ⟨w.heap.size, 0, none⟩) 2 2] 38)) := ((Below.refl _ _).alloc (Nat.le_refl _) _).alloc (by simp) _
  refine (ideal_any (some ⟨w.heap.size + 1, 0, none⟩) 1 [⟨1, 2, some ⟨w.heap.size, 0, none⟩, 2, [15, 240]⟩] (by simp) _ hP (one_ok (by omega) (by omega) (by decide))).mono ?_
  rintro e w1 ⟨g1, rfl, hg1, hI, hb1⟩
  have hM := hI.mask
  have hb01 := hb0.trans (hb1.mono hb0.size)
  have hc : cutL [⟨1, 2, some ⟨w.heap.size, 0, none⟩, 2, [15, 240]⟩] 1 2 = [15, 240] := by rw [one_hit]; rfl
  have hm0 : hid (pmask (cutL [⟨1, 2, some ⟨w.heap.size, 0, none⟩, 2, [15, 240]⟩]) 1 2) [255, 255, 1] 0 = 240 := by unfold hid pmask; rw [hc]; decide
  have hm1 : hid (pmask (cutL [⟨1, 2, some ⟨w.heap.size, 0, none⟩, 2, [15, 240]⟩]) 1 2) [255, 255, 1] 1 = 15 := by unfold hid pmask; rw [hc]; decide
  have hm2 : hid (pmask (cutL [⟨1, 2, some ⟨w.heap.size, 0, none⟩, 2, [15, 240]⟩]) 1 2) [255, 255, 1] 2 = 1 := by unfold hid pmask; rw [hc]; decide
  obtain ⟨M, hMM⟩ : ∃ M, pmask (cutL [⟨1, 2, some ⟨w.heap.size, 0, none⟩, 2, [15, 240]⟩]) = M := ⟨_, rfl⟩
  rw [hMM] at hM hm0 hm1 hm2
  clear hI hP hb0 hb1 hg1 hMM
  go_wp2_with fail
  have hb2 : Below w1.heap.size w1 (w1.alloc (.cells #[.int .u8 255, .int .u8 255, .int .u8 1] 5)) := (Below.refl _ _).alloc (Nat.le_refl _) _
  have hA3 : Hol (w1.alloc (.cells #[.int .u8 255, .int .u8 255, .int .u8 1] 5)) (some ⟨w1.heap.size, 0, none⟩) [255, 255, 1] := list_at fun j hj => by
    match j, hj with
    | 0, _ => simp [bc]
    | 1, _ => simp [bc]
    | 2, _ => simp [bc]
  refine (hide_any g1 M (some ⟨w1.heap.size, 0, none⟩) 3 [255, 255, 1] 1 2 (by omega) (by omega) (by simp) _ (hM.below hb2) hA3).mono ?_
  rintro e w2 ⟨g2, rfl, hr2, hg2, hb3⟩
  have hb02 := (hb01.trans (hb2.mono hb01.size)).trans (hb3.mono (Nat.le_trans hb01.size hb2.size))
  clear hb2 hA3 hb01 hb3 hg2 hM
  go_wp2_with (first
    | (refine step_make rfl _ _ 22 5 i U rfl 31 rfl rfl (by omega) ?_; intro g3 w3 hr3 hg3 hb4 hs3)
    | (go_at_call 9; refine (vnew_bad (some ⟨g3, 0, none⟩) 31 31 (by omega) _).mono ?_; rintro e w4 ⟨rfl, hb5⟩
       have hr4 := (hr2.kept hb4).kept hb5
       have c0 := hr4.cell 0
       have c1 := hr4.cell 1
       have c2 := hr4.cell 2
       rw [brr_get _ (by simp)] at c0 c1 c2
       rw [hm0] at c0
       rw [hm1] at c1
       rw [hm2] at c2
       replace c0 : w4.cell? ⟨g2, 0, none⟩ = some (.int .u8 240) := c0
       replace c1 : w4.cell? ⟨g2, 1, none⟩ = some (.int .u8 15) := c1
       replace c2 : w4.cell? ⟨g2, 2, none⟩ = some (.int .u8 1) := c2))
  go_ret
  exact ⟨rfl, (hb02.trans (hb4.mono hb02.size)).trans (hb5.mono (Nat.le_trans hb02.size hb4.size))⟩
end Go.Proofs.Ytecojmafnonkiaa
