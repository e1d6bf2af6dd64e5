/- Bytes compared by package bytes; four records of which some are read. Conditions: those named. -/
import Derived.Test.YtibnmhaipogleaaDoorNextW
import Derived.Test.YtibnmhaipogleaaDoorPlacesW
set_option linter.unusedVariables false
set_option maxRecDepth 20000
namespace Go.Proofs.YtibnmhaipogleaaDoor
open Go.RowKit

theorem string_beq (a b : List UInt8) : ((⟨a.toArray⟩ : ByteArray).toList == (⟨b.toArray⟩ : ByteArray).toList) = decide (a = b) := by
  rw [ByteArray.toList_eq, ByteArray.toList_eq, Bool.eq_iff_iff]
  simp
theorem bequal_any (A B : Option Addr) (n m c d : Nat) (a b : List UInt8) (hn : n = a.length) (hm : m = b.length) (w : World) (hA : Hol w A a) (hB : Hol w B b) :
    Calls Tryd.prog 33 #[.slice A n c, .slice B m d] w fun e w' => e = .returned (.bool (decide (a = b))) ∧ w' = w := by
  have h1 := run_to_string (P := Tryd.prog) w 29 9 5 A c n a hn Tryd.underlying29 Tryd.underlying5 Tryd.underlying9 hA
  have h2 := run_to_string (P := Tryd.prog) w 29 9 5 B d m b hm Tryd.underlying29 Tryd.underlying5 Tryd.underlying9 hB
  have hs := string_beq a b
  generalize (⟨a.toArray⟩ : ByteArray) = S at *
  generalize (⟨b.toArray⟩ : ByteArray) = T at *
  clear hA hB hn hm
  go_enter Tryd.func33, Tryd.ntmps33
  go_wp2
  go_ret
  exact ⟨by rw [← hs]; rfl, rfl⟩
theorem recsC_congr {R Q : Nat → RecV} (h : ∀ j, j < 4 → R j = Q j) : recsC R = recsC Q := by
  unfold recsC
  rw [h 0 (by omega), h 1 (by omega), h 2 (by omega), h 3 (by omega)]
/-- The first records, the others none. -/
def upR (R : Nat → RecV) (k : Nat) : Nat → RecV := fun j => if j < k then R j else rec0
theorem upR_zero (R : Nat → RecV) : recsC (upR R 0) = recsC fun _ => rec0 := recsC_congr fun j _ => by unfold upR; rw [if_neg (by omega)]
theorem upR_step (R : Nat → RecV) (k : Nat) : recsC (fun j => if j = k then R k else upR R k j) = recsC (upR R (k + 1)) := recsC_congr fun j _ => by
  unfold upR
  by_cases h : j = k
  · subst h
    rw [if_pos rfl, if_pos (by omega)]
  · rw [if_neg h]
    by_cases h2 : j < k
    · rw [if_pos h2, if_pos (by omega)]
    · rw [if_neg h2, if_neg (by omega)]
theorem upR_all (R : Nat → RecV) : recsC (upR R 4) = recsC R := recsC_congr fun j hj => by unfold upR; rw [if_pos hj]
/-- The records of a block. -/
def unR (l : List UInt8) (k : Nat) : RecV := recOf (l.drop (42 * k))
/-- Whether a block is one. -/
def unOk (l : List UInt8) : Bool := ((unR l 0).may && (unR l 1).may && (unR l 2).may && (unR l 3).may) && decide (lst 256 (pk (unR l)) = l)
theorem unR_ok (l : List UInt8) (k : Nat) : (unR l k).Ok := recOf_ok _
theorem unOk_may {l : List UInt8} (h : unOk l = true) (k : Nat) (hk : k < 4) : (unR l k).may = true := by
  unfold unOk at h
  simp only [Bool.and_eq_true] at h
  obtain ⟨⟨⟨⟨h0, h1⟩, h2⟩, h3⟩, _⟩ := h
  match k, hk with
  | 0, _ => exact h0
  | 1, _ => exact h1
  | 2, _ => exact h2
  | 3, _ => exact h3
theorem unOk_eq {l : List UInt8} (h : unOk l = true) : lst 256 (pk (unR l)) = l := by
  unfold unOk at h
  rw [Bool.and_eq_true] at h
  exact of_decide_eq_true h.2
theorem unOk_not {l : List UInt8} (h : ∀ k, k < 4 → (unR l k).may = true) : unOk l = decide (lst 256 (pk (unR l)) = l) := by
  unfold unOk
  rw [h 0 (by omega), h 1 (by omega), h 2 (by omega), h 3 (by omega)]
  rfl
theorem unOk_bad {l : List UInt8} {k : Nat} (hk : k < 4) (h : (unR l k).may = false) : unOk l = false := by
  cases h' : unOk l
  · rfl
  · rw [unOk_may h' k hk] at h
    cases h
end Go.Proofs.YtibnmhaipogleaaDoor
