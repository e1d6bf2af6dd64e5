/- Names and the order of texts, by the program: what each call leaves, for every text. Condition: the library's two tables hold what their initialisers lay. -/
import Derived.Test.YtcdgiailapcooaaDoorChecked
import Derived.Test.YtcdgiailapcooaaDoorMem
import Derived.Test.YtcdgiailapcooaaDoorRunes
import Derived.Test.YtcdgiailapcooaaDoorShelf
import Derived.WalkKit
import Derived.WalkMore
import Derived.WalkSpells
import Derived.WalkLawsBesides
import Derived.WalkSmall
import Derived.Handy
import Derived.Lib.OthersKept
import Derived.Outline
set_option linter.unusedVariables false
namespace Go.Proofs.YtcdgiailapcooaaDoor
open Go.RowKit

/-- The library's two tables. -/
def Tabs (w : World) : Prop := Lib.Utf8Tabs 0 1 w

theorem maybe_yes (c : Nat) (w : World) (h : okR c = true) (hc : c ≤ 1114111) : Calls Tryd.prog 35 #[.int .i32 c] w fun e w' => e = .returned (.bool true) ∧ w = w' := by
  have h0 : 32 ≤ c ∧ c ≠ 47 ∧ c ≠ 127 := by simpa [okR, and_assoc] using h
  have h1 : (32 : Int) ≤ (c : Int) := by omega
  have h2 : ((c : Int) != 47) = true := by rw [bne_iff_ne]; omega
  have h3 : ((c : Int) != 127) = true := by rw [bne_iff_ne]; omega
  clear h h0
  go_enter Tryd.func35, Tryd.ntmps35
  go_wp2
  go_ret
  exact ⟨rfl, rfl⟩
theorem maybe_no (c : Nat) (w : World) (h : okR c = false) (hc : c ≤ 1114111) : Calls Tryd.prog 35 #[.int .i32 c] w fun e w' => e = .returned (.bool false) ∧ w = w' := by
  have h0 : ¬ (32 ≤ c ∧ c ≠ 47 ∧ c ≠ 127) := by
    intro hh
    have : okR c = true := by simpa [okR, and_assoc] using hh
    rw [this] at h
    cases h
  by_cases k1 : c < 32
  · have h1 : ¬ (32 : Int) ≤ (c : Int) := by omega
    have h2 : decide ((32 : Int) ≤ (c : Int)) = false := by simp; omega
    clear h h0
    go_enter Tryd.func35, Tryd.ntmps35
    go_wp2
    go_ret
    exact ⟨rfl, rfl⟩
  by_cases k2 : c = 47
  · subst k2
    clear h h0
    go_enter Tryd.func35, Tryd.ntmps35
    go_wp2
    go_ret
    exact ⟨rfl, rfl⟩
  obtain rfl : c = 127 := by omega
  clear h h0
  go_enter Tryd.func35, Tryd.ntmps35
  go_wp2
  go_ret
  exact ⟨rfl, rfl⟩

theorem toList_ne {s : ByteArray} {l : List UInt8} (h : s.data.toList ≠ l) : (s.toList == l) = false := by
  rw [Lib.toList_data]
  simpa using h
theorem toList_eq_ {s : ByteArray} {l : List UInt8} (h : s.data.toList = l) : (s.toList == l) = true := by
  rw [Lib.toList_data]
  simpa using h
theorem isEmpty_ne {s : ByteArray} (h : s.data.toList ≠ []) : s.toList.isEmpty = false := by
  rw [Lib.toList_data]
  simpa using h
theorem isEmpty_eq {s : ByteArray} (h : s.data.toList = []) : s.toList.isEmpty = true := by
  rw [Lib.toList_data, h]
  rfl

theorem name_short (s : ByteArray) (w : World) (h : s.data.toList = [] ∨ s.data.toList = [46] ∨ s.data.toList = [46, 46]) :
    Calls Tryd.prog 25 #[.string s] w fun e w' => e = .returned (.int .i64 22) ∧ w = w' := by
  rcases h with h | h | h
  · have h1 := isEmpty_eq h
    clear h
    go_enter Tryd.func25, Tryd.ntmps25
    go_wp2
    go_ret
    exact ⟨rfl, rfl⟩
  · have h1 : s.toList.isEmpty = false := isEmpty_ne (by rw [h]; simp)
    have h2 := toList_eq_ h
    clear h
    go_enter Tryd.func25, Tryd.ntmps25
    go_wp2
    go_ret
    exact ⟨rfl, rfl⟩
  · have h1 : s.toList.isEmpty = false := isEmpty_ne (by rw [h]; simp)
    have h2 : (s.toList == [46]) = false := toList_ne (by rw [h]; simp)
    have h3 := toList_eq_ h
    clear h
    go_enter Tryd.func25, Tryd.ntmps25
    go_wp2
    go_ret
    exact ⟨rfl, rfl⟩

theorem name_bad (s : ByteArray) (w : World) (h1 : s.data.toList ≠ []) (h2 : s.data.toList ≠ [46]) (h3 : s.data.toList ≠ [46, 46]) (hv : Lib.validD s.data.toList = false) (hs : s.size ≤ 9223372036854775807) (hT : Tabs w) :
    Calls Tryd.prog 25 #[.string s] w fun e w' => e = .returned (.int .i64 22) ∧ Below w.heap.size w w' := by
  have cV := Tryd.utf8_ValidString s w hs hT
  rw [hv] at cV
  have k1 := isEmpty_ne h1
  have k2 := toList_ne h2
  have k3 := toList_ne h3
  clear h1 h2 h3 hv
  go_enter Tryd.func25, Tryd.ntmps25
  go_wp2_with (go_at_call 34; refine cV.mono ?_; rintro e w1 ⟨rfl, hb1⟩)
  go_ret
  exact ⟨rfl, hb1⟩

theorem below_iter {B : Nat} {w w1 : World} (h : Below B w w1) (hB : B ≤ w1.heap.size) (s : ByteArray) (p : Nat) : Below B w (w1.iter s p) := h.alloc hB _

theorem name_good (s : ByteArray) (w : World) (h1 : s.data.toList ≠ []) (h2 : s.data.toList ≠ [46]) (h3 : s.data.toList ≠ [46, 46]) (hv : Lib.validD s.data.toList = true) (hs : s.size ≤ 9223372036854775807) (hT : Tabs w) :
    Calls Tryd.prog 25 #[.string s] w fun e w' => e = .returned (.int .i64 (if (dl s.data.toList).all okR then (if 32 < s.data.toList.length then 36 else 0) else 22)) ∧ Below w.heap.size w w' := by
  have cV := Tryd.utf8_ValidString s w hs hT
  rw [hv] at cV
  have k1 := isEmpty_ne h1
  have k2 := toList_ne h2
  have k3 := toList_ne h3
  clear h1 h2 h3 hv
  rw [← Lib.size_eq]
  obtain ⟨ANS, hA⟩ : ∃ ANS, (dl s.data.toList).all okR = ANS := ⟨_, rfl⟩
  rw [hA]
  generalize hR : (if ANS = true then (if 32 < s.size then 36 else 0) else (22 : Int)) = R
  have HR := Lib.hid hR
  have HA := Lib.hid hA
  clear hA hR
  go_enter Tryd.func25, Tryd.ntmps25
  go_wp2_with (go_at_call 34; refine cV.mono ?_; rintro e w1 ⟨rfl, hb1⟩)
  clear cV k1 k2 k3
  go_loopw [4] (fun _ wr => ∃ pos : Nat, wr = w1.iter s pos ∧ Hid ((dl (s.data.toList.drop pos)).all okR = ANS)) (fun _ wr => s.size - wr.iterPos w1.heap.size)
  case atStart => exact ⟨0, rfl, Lib.hid HA.out⟩
  case round =>
    obtain ⟨pos, rfl, hans⟩ := hrel
    by_cases hp : pos < s.size
    · have hnx : ∀ ty, (Instr.next (.pointer (some ⟨w1.heap.size, 0, none⟩)) true ty).run Tryd.prog (w1.iter s pos) = _ := fun ty => run_next_any w1 s pos ty hp
      have hne : s.data.toList.drop pos ≠ [] := by
        intro e
        have := congrArg List.length e
        rw [List.length_drop, ← Lib.size_eq] at this
        simp at this
        omega
      have hdd := Lib.decodeL_drop s pos
      have hst := dl_step _ hne
      rw [hdd] at hst
      have hc := Lib.rune_le s pos
      have hwd := Lib.width_pos s pos
      clear hdd hne
      generalize hd : Utf8.decode s pos = d at *
      obtain ⟨c, n⟩ := d
      replace hc : c ≤ 1114111 := hc
      replace hwd : 1 ≤ n := hwd
      have HST := Lib.hid hst
      clear hst hd
      cases hok : okR c
      · have cM := fun W => maybe_no c W hok hc
        have hA : ANS = false := by
          rw [← hans.out, HST.out]
          simp [hok]
        have hR : R = 22 := by rw [← HR.out, hA]; rfl
        subst hR
        clear hok hA
        go_wp2_with (go_at_call 35; refine (cM _).mono ?_; rintro e w' ⟨rfl, rfl⟩)
        go_ret
        exact ⟨rfl, below_iter hb1 hb1.size s _⟩
      · have cM := fun W => maybe_yes c W hok hc
        have hans2 : Hid ((dl (s.data.toList.drop (pos + n))).all okR = ANS) := by
          have := hans.out
          rw [HST.out, List.all_cons, hok, Bool.true_and, List.drop_drop] at this
          exact this
        clear hok
        go_wp2_with (go_at_call 35; refine (cM _).mono ?_; rintro e w' ⟨rfl, rfl⟩)
        go_roundw
        case rel => exact ⟨pos + n, rfl, hans2⟩
        case measure =>
          simp
          omega
    · have hnx : ∀ ty, (Instr.next (.pointer (some ⟨w1.heap.size, 0, none⟩)) true ty).run Tryd.prog (w1.iter s pos) = _ := fun ty => run_next_end w1 s pos ty hp
      have hA : ANS = true := by
        rw [← hans.out, List.drop_eq_nil_of_le (by rw [← Lib.size_eq]; omega)]
        rfl
      by_cases h32 : 32 < s.size
      · have hz : (32 : Int) < (s.size : Int) := by omega
        have hR : R = 36 := by rw [← HR.out, hA, if_pos rfl, if_pos h32]
        subst hR
        clear hA h32
        go_wp2
        go_ret
        exact ⟨rfl, below_iter hb1 hb1.size s _⟩
      · have hz : ¬ (32 : Int) < (s.size : Int) := by omega
        have hR : R = 0 := by rw [← HR.out, hA, if_pos rfl, if_neg h32]
        subst hR
        clear hA h32
        go_wp2
        go_ret
        exact ⟨rfl, below_iter hb1 hb1.size s _⟩

/-- wire.Name. -/
theorem name_any (s : ByteArray) (w : World) (hs : s.size ≤ 9223372036854775807) (hT : Tabs w) :
    Calls Tryd.prog 25 #[.string s] w fun e w' => e = .returned (.int .i64 (nameR s.data.toList)) ∧ Below w.heap.size w w' := by
  by_cases h : s.data.toList = [] ∨ s.data.toList = [46] ∨ s.data.toList = [46, 46]
  · have hr : nameR s.data.toList = 22 := by unfold nameR; rw [if_pos h]
    rw [hr]
    exact (name_short s w h).mono fun e w' ⟨he, hw⟩ => ⟨he, by rw [hw]; exact Below.refl _ _⟩
  · have h' := h
    simp only [not_or] at h'
    cases hv : Lib.validD s.data.toList
    · have hr : nameR s.data.toList = 22 := by unfold nameR; rw [if_neg h, hv]; rfl
      rw [hr]
      exact name_bad s w h'.1 h'.2.1 h'.2.2 hv hs hT
    · have hr : nameR s.data.toList = (if (dl s.data.toList).all okR then (if 32 < s.data.toList.length then 36 else 0) else 22) := by unfold nameR; rw [if_neg h, hv, Bool.true_and]
      rw [hr]
      exact name_good s w h'.1 h'.2.1 h'.2.2 hv hs hT
end Go.Proofs.YtcdgiailapcooaaDoor
