/- Two names side by side are a name, unless they are too long together: the statement on WireJoins, its card. Condition: the listed tables hold what the library's text lays. -/
import Derived.Test.YtcdgiailapcooaaDoorIn
import Derived.Test.YtcdgiailapcooaaDoorLess
import Derived.Lib.SmallJoins
set_option linter.unusedVariables false
namespace Go.Proofs.YtcdgiailapcooaaDoor.wireJoins
open Go.ChangeShapes Go.WideShapes Go.ChangeAt Go.RowKit
open Go.ChangeMaps (open_string shut_string)

theorem name_ok {l : List UInt8} (h : nameR l = 0) : l ≠ [] ∧ l ≠ [46] ∧ l ≠ [46, 46] ∧ Lib.validD l = true ∧ (dl l).all okR = true ∧ l.length ≤ 32 := by
  unfold nameR at h
  split at h
  · cases h
  · rename_i h1
    simp only [not_or] at h1
    split at h
    · rename_i h2
      rw [Bool.and_eq_true] at h2
      split at h
      · cases h
      · exact ⟨h1.1, h1.2.1, h1.2.2, h2.1, h2.2, by omega⟩
    · cases h
theorem names_join {x y : List UInt8} (hx : nameR x = 0) (hy : nameR y = 0) :
    nameR (x ++ y) = (if 32 < x.length + y.length then 36 else 0) ∧ lessD x (x ++ y) = true := by
  obtain ⟨x1, x2, x3, x4, x5, x6⟩ := name_ok hx
  obtain ⟨y1, y2, y3, y4, y5, y6⟩ := name_ok hy
  obtain ⟨d1, d2⟩ := app_all x y x4
  have hy0 : dl y ≠ [] := fun e => y1 ((dl_empty y).1 e)
  constructor
  · unfold nameR
    rw [if_neg, d1, d2, y4, List.all_append, x5, y5, List.length_append]
    · rfl
    · rintro (e | e | e)
      · exact x1 (List.append_eq_nil_iff.1 e).1
      · have hl := congrArg List.length e
        have h1 : 0 < x.length := List.length_pos_iff.2 x1
        have h2 : 0 < y.length := List.length_pos_iff.2 y1
        simp at hl
        omega
      · match x, x1, x2, e with
        | [], x1, _, _ => exact x1 rfl
        | [p], _, x2, e =>
          injection e with e1 e2
          subst e1
          exact x2 rfl
        | p :: q :: r, _, _, e =>
          injection e with e1 e2
          injection e2 with e2 e3
          have := (List.append_eq_nil_iff.1 e3).2
          exact y1 this
  · unfold lessD
    rw [d1]
    exact lex_prefix _ _ hy0

set_option maxHeartbeats 400000 in
theorem walk (a : ByteArray) (ha : a.size ≤ maxLen) (b : ByteArray) (hb : b.size ≤ maxLen) (w : World) (hT : Tabs w) :
    Calls Tryd.prog 11 #[.string a, .string b] w fun e w' => e = .returned (.bool true) ∧ Below w.heap.size w w' := by
  unfold maxLen at ha hb
  have NA := Lib.hid (fun W (hW : Below w.heap.size w W) => name_any a W (by omega) (tabs_below hT hW))
  have NB := Lib.hid (fun W (hW : Below w.heap.size w W) => name_any b W (by omega) (tabs_below hT hW))
  by_cases hna : nameR a.data.toList = 0
  · by_cases hnb : nameR b.data.toList = 0
    · obtain ⟨j1, j2⟩ := names_join hna hnb
      have la := (name_ok hna).2.2.2.2.2
      have lb := (name_ok hnb).2.2.2.2.2
      rw [← Lib.size_eq] at la lb
      have hd : (a ++ b).data.toList = a.data.toList ++ b.data.toList := Joins.data_append a b
      have hsz : (a ++ b).size = a.size + b.size := by rw [Lib.size_eq, hd, List.length_append, ← Lib.size_eq, ← Lib.size_eq]
      have NJ := Lib.hid (fun W (hW : Below w.heap.size w W) => name_any (a ++ b) W (by omega) (tabs_below hT hW))
      have LJ := Lib.hid (fun W (hW : Below w.heap.size w W) => less_any a (a ++ b) W (by omega) (by omega) (tabs_below hT hW))
      rw [hd] at NJ LJ
      rw [j1, ← Lib.size_eq, ← Lib.size_eq] at NJ
      rw [j2] at LJ
      rw [hna] at NA
      rw [hnb] at NB
      clear j1 j2 hd hsz hna hnb ha hb
      by_cases h32 : 32 < a.size + b.size
      · rw [if_pos h32] at NJ
        have hz : (32 : Int) < (a.size : Int) + (b.size : Int) := by omega
        clear h32
        go_enter Tryd.func11, Tryd.ntmps11
        go_wp2_with fail
        refine (awake_any w hT).mono ?_
        rintro e w1 ⟨rfl, hb1⟩
        go_wp2_with fail
        refine (NA.out w1 hb1).mono ?_
        rintro e w2 ⟨rfl, hb2⟩
        have hb12 := hb1.trans (hb2.mono hb1.size)
        go_wp2_with fail
        refine (NB.out w2 hb12).mono ?_
        rintro e w3 ⟨rfl, hb3⟩
        have hb13 := hb12.trans (hb3.mono hb12.size)
        go_wp2_with fail
        refine (NJ.out w3 hb13).mono ?_
        rintro e w4 ⟨rfl, hb4⟩
        have hb14 := hb13.trans (hb4.mono hb13.size)
        go_wp2_with fail
        refine (LJ.out w4 hb14).mono ?_
        rintro e w5 ⟨rfl, hb5⟩
        go_wp2
        go_ret
        exact ⟨rfl, hb14.trans (hb5.mono hb14.size)⟩
      · rw [if_neg h32] at NJ
        have hz : ¬ (32 : Int) < (a.size : Int) + (b.size : Int) := by omega
        clear h32
        go_enter Tryd.func11, Tryd.ntmps11
        go_wp2_with fail
        refine (awake_any w hT).mono ?_
        rintro e w1 ⟨rfl, hb1⟩
        go_wp2_with fail
        refine (NA.out w1 hb1).mono ?_
        rintro e w2 ⟨rfl, hb2⟩
        have hb12 := hb1.trans (hb2.mono hb1.size)
        go_wp2_with fail
        refine (NB.out w2 hb12).mono ?_
        rintro e w3 ⟨rfl, hb3⟩
        have hb13 := hb12.trans (hb3.mono hb12.size)
        go_wp2_with fail
        refine (NJ.out w3 hb13).mono ?_
        rintro e w4 ⟨rfl, hb4⟩
        have hb14 := hb13.trans (hb4.mono hb13.size)
        go_wp2_with fail
        refine (LJ.out w4 hb14).mono ?_
        rintro e w5 ⟨rfl, hb5⟩
        go_wp2
        go_ret
        exact ⟨rfl, hb14.trans (hb5.mono hb14.size)⟩
    · rw [hna] at NA
      generalize nameR b.data.toList = nb at *
      have hne : (nb != 0) = true := by rw [bne_iff_ne]; exact hnb
      clear hnb hna
      go_enter Tryd.func11, Tryd.ntmps11
      go_wp2_with fail
      refine (awake_any w hT).mono ?_
      rintro e w1 ⟨rfl, hb1⟩
      go_wp2_with fail
      refine (NA.out w1 hb1).mono ?_
      rintro e w2 ⟨rfl, hb2⟩
      have hb12 := hb1.trans (hb2.mono hb1.size)
      go_wp2_with fail
      refine (NB.out w2 hb12).mono ?_
      rintro e w3 ⟨rfl, hb3⟩
      go_wp2
      go_ret
      exact ⟨rfl, hb12.trans (hb3.mono hb12.size)⟩
  · generalize nameR a.data.toList = na at *
    have hne : (na != 0) = true := by rw [bne_iff_ne]; exact hna
    clear hna
    go_enter Tryd.func11, Tryd.ntmps11
    go_wp2_with fail
    refine (awake_any w hT).mono ?_
    rintro e w1 ⟨rfl, hb1⟩
    go_wp2_with fail
    refine (NA.out w1 hb1).mono ?_
    rintro e w2 ⟨rfl, hb2⟩
    go_wp2
    go_ret
    exact ⟨rfl, hb1.trans (hb2.mono hb1.size)⟩
end Go.Proofs.YtcdgiailapcooaaDoor.wireJoins
