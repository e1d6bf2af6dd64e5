/- What keeps block 3 as it is: each call of the program's disk that names another block. Conditions: the disk lies there. -/
import Derived.Test.YtnajlineipapdaaMgPTam3
import Derived.Test.YtnajlineipapdaaPBar
import Derived.Test.YtnajlineipapdaaKeepP
set_option linter.unusedVariables false
namespace Go.Proofs.Ytnajlineipapdaa
open Go.RowKit

/-- Block 3 is as it was written. -/
structure Fine (ss : List BV) (rs : List (Nat × BV)) (ts : List (Int × Int × BV)) (m t : Nat) : Prop where
  len : ss.length = 4
  three : (ss.getD 3 noBV).l = pad [3]
  no : ∀ p ∈ rs, p.1 ≠ 3
  few : rs.length ≤ m
  touched : ts.length ≤ t
def Safe (b : Nat) (w w' : World) (g : Nat) (F : List Nat) (m t : Nat) : Prop := ∃ F' ss rs E ts, Hid (PD b w' g F' ss rs E ts) ∧ Hid (Fine ss rs ts m t) ∧ Hid (Chg F w w') ∧ Hid (Wider w F F')
theorem Fine.now {ss : List BV} {rs : List (Nat × BV)} {ts : List (Int × Int × BV)} {m t : Nat} (h : Fine ss rs ts m t) : (nowV ss rs 3).l = pad [3] := by
  unfold nowV
  rcases now_of rs ss 3 rs.length (Nat.le_refl _) with ⟨_, e⟩ | ⟨k, hk, _, _, e⟩
  · rw [e]
    exact h.three
  · exfalso
    have hp : rs[k]? = some (rs.getD k (0, noBV)) := by rw [List.getD_eq_getElem?_getD, List.getElem?_eq_getElem hk]; rfl
    exact h.no _ (List.mem_of_getElem? hp) e
theorem syncK_other {keep : Nat → Bool} {rs : List (Nat × BV)} {ss : List BV} {a : Nat} (hno : ∀ p ∈ rs, p.1 ≠ a) : ∀ k, (syncK keep rs ss k).getD a noBV = ss.getD a noBV
  | 0 => rfl
  | k + 1 => by
    rw [syncK]
    split
    · rename_i p hp
      split
      · rw [List.getD_eq_getElem?_getD, List.getElem?_set_ne (hno p (List.mem_of_getElem? hp)), ← List.getD_eq_getElem?_getD]
        exact syncK_other hno k
      · exact syncK_other hno k
    · exact syncK_other hno k
theorem getD_set_ne {ss : List BV} {a i : Nat} {x : BV} (h : a ≠ i) : (ss.set a x).getD i noBV = ss.getD i noBV := by
  rw [List.getD_eq_getElem?_getD, List.getElem?_set_ne h, ← List.getD_eq_getElem?_getD]
theorem gone_len (a : Nat) (rs : List (Nat × BV)) : (gone a rs).length ≤ rs.length := List.length_filter_le _ _
theorem dropL_mem {rs : List (Nat × BV)} {a : Nat} {p : Nat × BV} (h : p ∈ dropL rs a) : p ∈ rs := by
  unfold dropL at h
  split at h
  · exact h
  · exact cut1_mem h
theorem dropL_len (rs : List (Nat × BV)) (a : Nat) : (dropL rs a).length ≤ rs.length := by
  unfold dropL
  split
  · exact Nat.le_refl _
  · unfold cut1
    rw [List.length_append, List.length_take, List.length_drop]
    rcases now_of rs [] a rs.length (Nat.le_refl _) with ⟨e, _⟩ | ⟨k, hk, e, _, _⟩
    · omega
    · rw [e]
      simp
      omega
section
variable {b : Nat} {w : World} {g : Nat} {F : List Nat} {ss : List BV} {rs : List (Nat × BV)} {E : Nat → List BV} {ts : List (Int × Int × BV)} {m t : Nat}
theorem Fine.forced {a : Nat} {x : BV} (h : Fine ss rs ts m t) (ha : a ≠ 3) : Fine (ss.set a x) (gone a rs) ts m t :=
  ⟨by rw [List.length_set]; exact h.len, by rw [getD_set_ne ha]; exact h.three, fun p hp => h.no p (gone_mem hp), Nat.le_trans (gone_len _ _) h.few, h.touched⟩
theorem Fine.wider {m' t' : Nat} (h : Fine ss rs ts m t) (hm : m ≤ m') (ht : t ≤ t') : Fine ss rs ts m' t' := ⟨h.len, h.three, h.no, Nat.le_trans h.few hm, Nat.le_trans h.touched ht⟩
theorem write_safe (h : PD b w g F ss rs E ts) (f : Fine ss rs ts m t) (hm : m ≤ 1000) (ht : t ≤ 1000) (z : Int) (hz : z ≠ 3) (A : Option Addr) (len c : Nat) (l : List UInt8) (hlen : len = l.length) (hA : Hol w A l) :
    Calls Try.prog 18 #[.pointer (some ⟨g, 0, none⟩), .int .i64 z, .slice A len c] w fun e w' => ∃ v : Int, e = .returned (.int .i64 v) ∧ Safe b w w' g F (m + 1) (t + 1) := by
  by_cases hin : (0 ≤ z ∧ z < 4) ∧ len = 256
  · obtain ⟨a, rfl⟩ := Int.eq_ofNat_of_zero_le hin.1.1
    refine (h.write a (by rw [f.len]; omega) A len c l hlen (by omega) hA (by have := f.few; omega) (by have := f.touched; omega)).mono ?_
    rintro e w' ⟨x, rfl, _, F', h1, h2, h3⟩
    exact ⟨0, rfl, F', _, _, _, _, h1, Lib.hid ⟨f.len, f.three, fun p hp => by
      rcases List.mem_append.1 hp with hp | hp
      · exact f.no p hp
      · simp at hp
        subst hp
        exact fun e => hz (by simp at e; omega), by rw [List.length_append]; have := f.few; simp; omega, by rw [List.length_append]; have := f.touched; simp; omega⟩, h2, h3⟩
  · refine (h.write_out z A len c (by rw [f.len]; omega)).mono ?_
    rintro e w' ⟨rfl, rfl⟩
    exact ⟨201, rfl, F, _, _, _, _, Lib.hid h, Lib.hid (f.wider (by omega) (by omega)), Lib.hid (Chg.refl _ _), Lib.hid (Wider.refl _ _)⟩
theorem barrier_safe (h : PD b w g F ss rs E ts) (f : Fine ss rs ts m t) (hm : m ≤ 1000) (ht : t ≤ 1000) :
    Calls Try.prog 20 #[.pointer (some ⟨g, 0, none⟩)] w fun e w' => e = .returned (.tuple #[]) ∧ Safe b w w' g F (m + 1) (t + 1) := by
  refine (h.barrier (by have := f.few; omega) (by have := f.touched; omega)).mono ?_
  rintro e w' ⟨rfl, F', h1, h2, h3⟩
  exact ⟨rfl, F', _, _, _, _, h1, Lib.hid ⟨by rw [syncK_len]; exact f.len, by rw [syncK_other f.no]; exact f.three, fun p hp => (by cases hp), Nat.zero_le _, by rw [List.length_append]; have := f.touched; simp; omega⟩, h2, h3⟩
theorem crash_safe (h : PD b w g F ss rs E ts) (f : Fine ss rs ts m t) (hm : m ≤ 1000) (K : Option Addr) (n kc : Nat) (kl : List Bool) (hn : n = kl.length) (hK : HolV w K (kl.map Value.bool)) (hKn : ∀ g0 o, K = some ⟨g0, o, none⟩ → kl.map Value.bool ≠ [] → g0 ∉ F) :
    Calls Try.prog 22 #[.pointer (some ⟨g, 0, none⟩), .slice K n kc] w fun e w' => e = .returned (.tuple #[]) ∧ Safe b w w' g F (m + 1) (t + 1) := by
  refine (h.crash (by have := f.few; omega) K n kc kl hn hK hKn).mono ?_
  rintro e w' ⟨rfl, F', h1, h2, h3⟩
  exact ⟨rfl, F', _, _, _, _, h1, Lib.hid ⟨by rw [syncK_len]; exact f.len, by rw [syncK_other f.no]; exact f.three, fun p hp => (by cases hp), Nat.zero_le _, by have := f.touched; omega⟩, h2, h3⟩
theorem tamper_safe (h : PD b w g F ss rs E ts) (f : Fine ss rs ts m t) (hm : m ≤ 1000) (ht : t ≤ 1000) (k z n : Int) (hz : z ≠ 3) (hn : n ≤ 9223372036854775807) (A : Option Addr) (len c : Nat) (l : List UInt8) (hlen : len = l.length) (hA : Hol w A l) :
    Calls Try.prog 24 #[.pointer (some ⟨g, 0, none⟩), .agg (tampC k z n A len c).toArray] w fun e w' => ∃ v : Int, e = .returned (.int .i64 v) ∧ Safe b w w' g F (m + 1) (t + 1) := by
  by_cases hbad : (z < 0 ∨ (ss.length : Int) ≤ z) ∨ n < 0 ∨ (k = 2 ∧ (ss.length : Int) ≤ n) ∨ (k ≠ 1 ∧ k ≠ 2 ∧ k ≠ 3 ∧ k ≠ 4)
  · refine (h.tamper_out k z n A len c hbad).mono ?_
    rintro e w' ⟨rfl, hb⟩
    exact ⟨201, rfl, F, _, _, _, _, Lib.hid (h.kept hb.out), Lib.hid (f.wider (by omega) (by omega)), Lib.hid (Chg.of hb.out), Lib.hid (Wider.refl _ _)⟩
  · obtain ⟨a, rfl⟩ := Int.eq_ofNat_of_zero_le (by omega : 0 ≤ z)
    obtain ⟨q, rfl⟩ := Int.eq_ofNat_of_zero_le (by omega : 0 ≤ n)
    have ha : a < ss.length := by omega
    have ha3 : a ≠ 3 := by omega
    have hr1 : rs.length ≤ 1000000 := by have := f.few; omega
    have ht1 : ts.length ≤ 1000000 := by have := f.touched; omega
    rcases (by omega : k = 1 ∨ k = 2 ∨ k = 3 ∨ k = 4) with rfl | rfl | rfl | rfl
    · refine (h.tamper_set hr1 ht1 a ha q A len c l hlen hA).mono ?_
      rintro e w' ⟨rfl, x, _, _, F', h1, h2, h3⟩
      exact ⟨0, rfl, F', _, _, _, _, h1, Lib.hid ((f.forced ha3).wider (by omega) (by omega)), h2, h3⟩
    · refine (h.tamper_copy hr1 ht1 a ha q (by omega) A len c).mono ?_
      rintro e w' ⟨rfl, x, _, _, F', h1, h2, h3⟩
      exact ⟨0, rfl, F', _, _, _, _, h1, Lib.hid ((f.forced ha3).wider (by omega) (by omega)), h2, h3⟩
    · refine (h.tamper_old hr1 ht1 a ha q (by omega) A len c).mono ?_
      rintro e w' ⟨rfl, x, _, _, F', h1, h2, h3⟩
      exact ⟨0, rfl, F', _, _, _, _, h1, Lib.hid ((f.forced ha3).wider (by omega) (by omega)), h2, h3⟩
    · refine (h.tamper_drop hr1 ht1 a ha q A len c).mono ?_
      rintro e w' ⟨rfl, F', h1, h2, h3⟩
      exact ⟨0, rfl, F', _, _, _, _, h1, Lib.hid ⟨f.len, f.three, fun p hp => f.no p (dropL_mem hp), by have := dropL_len rs a; have := f.few; omega, by have := f.touched; omega⟩, h2, h3⟩
end
end Go.Proofs.Ytnajlineipapdaa
