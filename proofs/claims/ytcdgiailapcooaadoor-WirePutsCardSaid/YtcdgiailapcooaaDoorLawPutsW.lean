/- Every number goes behind any bytes as the document says, or is refused, and the bytes stay: the statement on WirePuts, its card. Condition: the listed tables hold what the library's text lays. -/
import Derived.Test.YtcdgiailapcooaaDoorIn
import Derived.Test.YtcdgiailapcooaaDoorRef2
set_option linter.unusedVariables false
namespace Go.Proofs.YtcdgiailapcooaaDoor.wirePuts
open Go.ChangeShapes Go.WideShapes Go.ChangeAt Go.RowKit
open Go.ChangeMaps (open_string shut_string)

theorem long (a : Option Addr) (len cap : Nat) (l : List UInt8) (size x : Int) (w : World) (hl : InB w a len cap l) (hT : Tabs w) (h : 65536 < l.length) :
    Calls Tryd.prog 3 #[.slice a len cap, .int .i64 size, .int .u64 x] w fun e w' => e = .returned (.bool true) ∧ Below w.heap.size w w' := by
  obtain ⟨rfl, hA, hcap, hmax⟩ := hl
  unfold maxLen at hmax
  have hl63 : (l.length : Int) ≤ 9223372036854775807 := by omega
  have hz : (65536 : Int) < (l.length : Int) := by omega
  go_enter Tryd.func3, Tryd.ntmps3
  go_wp2_with (go_at_call 12; refine (awake_any w hT).mono ?_; rintro e w1 ⟨rfl, hb1⟩)
  go_ret
  exact ⟨rfl, hb1⟩

theorem below_q {B : Nat} {a w : World} (h : Below B a w) : ∀ q, Below B a (w.drewN q)
  | 0 => h
  | q + 1 => (below_q h q).drew
/-- Eight sevens. -/
def sev : List UInt8 := [7, 7, 7, 7, 7, 7, 7, 7]
theorem hol_sev (w : World) (e : TypeId) : Hol (w.alloc (.cells #[.int .u8 7, .int .u8 7, .int .u8 7, .int .u8 7, .int .u8 7, .int .u8 7, .int .u8 7, .int .u8 7] e)) (some ⟨w.heap.size, 0, none⟩) sev := by
  refine .inr ⟨w.heap.size, 0, rfl, fun j y hy => ?_⟩
  unfold sev at hy
  match j, hy with
  | 0, hy | 1, hy | 2, hy | 3, hy | 4, hy | 5, hy | 6, hy | 7, hy => simp at hy; subst hy; simp
theorem sev_at (l : List UInt8) (k : Nat) (h : k < (l ++ sev).length) (hk : l.length ≤ k) : (l ++ sev)[k] = 7 := by
  rw [List.getElem_append_right hk]
  have key : ∀ j (hj : j < sev.length), sev[j]'hj = 7 := by
    intro j hj
    match j, hj with
    | 0, _ | 1, _ | 2, _ | 3, _ | 4, _ | 5, _ | 6, _ | 7, _ => rfl
  exact key _ _

set_option maxHeartbeats 2000000 in
theorem go (a : Option Addr) (len cap : Nat) (l : List UInt8) (size : Int) (x : Nat) (w : World) (hl : InB w a len cap l) (hT : Tabs w) (h : l.length ≤ 65536) (hx : x < 18446744073709551616) :
    Calls Tryd.prog 3 #[.slice a len cap, .int .i64 size, .int .u64 x] w fun e w' => e = .returned (.bool true) ∧ Below w.heap.size w w' := by
  obtain ⟨rfl, hA, hcap, hmax⟩ := hl
  unfold maxLen at hmax
  obtain ⟨i, U⟩ := u8_table
  have hz : ¬ (65536 : Int) < (l.length : Int) := by omega
  have hl63 : (l.length : Int) ≤ 65536 := by omega
  go_enter Tryd.func3, Tryd.ntmps3
  go_wp2_with fail
  refine (awake_any w hT).mono ?_
  rintro e w1 ⟨rfl, hb1⟩
  have hA1 := hA.below hb1
  go_wp2_with (first
    | (refine wpList_make_own _ rfl _ _ 22 rfl w1.heap.size 5 i (.int .u8 0) 1 U.ht U.hi U.hz U.h1 .i64 .i64 _ (l.length + 16) rfl rfl (by omega) (by rw [U.h2]; omega) (by unfold maxLen; omega) (Nat.le_refl _) ?_
       intro w2 hown2 hg2)
    | (at_builtin
       refine wpList_app _ rfl (.tmp 21) (.tmp 22) _ rfl 5 i U w1.heap.size (.slice (some ⟨w1.heap.size, 0, none⟩) 0 (l.length + 16)) 0 (bc []) rfl hown2 a l.length cap l rfl rfl (hA1.below (below_of_grown hg2)) (by omega) hg2.size ?_
       intro v3 w3 hown3 hg3 hat3
       have hb3 : Below w1.heap.size w1 w3 := (below_of_grown hg2).grown hg3 hg2.size (fun k hk => (hown2.lt k hk).1))
    | (at_builtin
       refine wpList_app _ rfl (.tmp 23) (.tmp 24) _ rfl 5 i U w1.heap.size v3 (0 + l.length) _ rfl (hown3.alloc _) (some ⟨w3.heap.size, 0, none⟩) 8 8 sev rfl rfl (hol_sev w3 5) (by omega) (by have := hb3.size; simp; omega) ?_
       intro v4 w4 hown4 hg4 hat4
       have hb4 : Below w1.heap.size w1 w4 := (hb3.alloc hb3.size _).grown hg4 (by have := hb3.size; simp; omega) (fun k hk => (hown3.lt k hk).1)
       have hown5 : w4.ownsRow w1.heap.size 5 1 v4 (0 + l.length + 8) (bc (l ++ sev)) := (by rw [bc_app]; exact hown4)
       obtain ⟨hn5, A5, c5, hv5, hc5, hm5, hA5⟩ := own_form hown5
       rw [show (l ++ sev).length = l.length + 8 from List.length_append] at hv5 hc5
       have hc5b : l.length ≤ c5 := (by omega)
       subst hv5
       clear hn5))
  have hA6 : Hol w4 A5 l := by
    have := hA5.take_ l.length
    rw [List.take_left] at this
    exact this
  have hsev : ∀ k (hk : k < (l ++ sev).length), l.length ≤ k → (l ++ sev)[k] = 7 := fun k hk h => sev_at l k hk h
  have hlow : ∀ k (hk : k < (l ++ sev).length) (h : k < l.length), (l ++ sev)[k] = l[k] := fun k hk h => List.getElem_append_left h
  have hb14 : Below w.heap.size w w4 := hb1.trans (hb4.mono hb1.size)
  clear hown5 hown4 hg4 hat4 hown3 hg3 hat3 hown2 hg2 hA1 hb3 hb4
  have hO : (l ++ sev).length = l.length + 8 := List.length_append
  generalize l ++ sev = O at *
  have HSEV := Lib.hid hsev
  have HLOW := Lib.hid hlow
  have HO := Lib.hid hO
  clear hsev hlow
  have cX := put_any A5 c5 l size x w4 hA6 hx (by omega)
  have cY := fun W hW => rput_any a cap l size x W (hA.below (hb14.trans hW)) hx (by omega)
  have hlen : (putR l size x).1.length ≤ 1000000 := by
    unfold putR
    split
    · simp
    · split
      · simp
      · rename_i hw _
        have := wid_pos hw
        simp only [List.length_append, leb_len]
        omega
  generalize putR l size x = R at cX cY hlen
  obtain ⟨r, e0⟩ := R
  replace hlen : r.length ≤ 1000000 := hlen
  have CY : Hid (∀ W, Below w4.heap.size w4 W → Calls Tryd.prog 14 #[.slice a l.length cap, .int .i64 size, .int .u64 x] W (BytesPost W (r, e0))) := by
    refine Lib.hid fun W hW => ?_
    exact cY W (hW.mono hb14.size)
  clear cY
  refine cX.mono ?_
  rintro e w5 ⟨v, rfl, hown6, hb5⟩
  replace hown6 : w5.ownsRow w4.heap.size 5 1 v r.length (bc r) := hown6
  obtain ⟨_, A7, c7, rfl, _, _, hA7⟩ := own_form hown6
  clear hown6 cX
  have hA55 := hA5.below hb5
  go_wp2_with fail
  refine (CY.out w5 hb5).mono ?_
  rintro e w6 ⟨v, rfl, hown7, hb6⟩
  replace hown7 : w6.ownsRow w5.heap.size 5 1 v r.length (bc r) := hown7
  obtain ⟨_, A8, c8, rfl, _, _, hA8⟩ := own_form hown7
  clear hown7
  have hA56 := hA55.below hb6
  have hA76 := hA7.below hb6
  have hb46 := hb5.trans (hb6.mono hb5.size)
  have hb16 := hb14.trans (hb46.mono hb14.size)
  have hAa := hA.below hb16
  clear hA55 hA7 hA5 hA6 hb5 hb6 hb46
  go_wp2
  clear hO
  go_loopw [12] (fun i wr => ∃ k : Nat, k ≤ l.length + 8 ∧ i = .int .i64 k ∧ ∃ q, wr = w6.drewN q) (fun i _ => l.length + 8 - (intOf i).toNat)
  case atStart => exact ⟨0, Nat.zero_le _, rfl, 0, rfl⟩
  case round =>
    obtain ⟨k, hk, rfl, q, rfl⟩ := hrel
    by_cases hlt8 : k < l.length + 8
    · have hlt : k < O.length := by rw [HO.out]; exact hlt8
      have hkz : (k : Int) < (l.length : Int) + 8 := by omega
      obtain ⟨g, o, rfl, _, hc1⟩ := hA56.at_ hlt
      by_cases hkl : k < l.length
      · have hkl2 : (k : Int) < (l.length : Int) := by omega
        have hkl3 : decide ((l.length : Int) ≤ (k : Int)) = false := by simp; omega
        have hkl4 : decide (l.length ≤ k) = false := by simp; omega
        rw [HLOW.out k hlt hkl] at hc1
        obtain ⟨g2, o2, rfl, _, hc2⟩ := hAa.at_ hkl
        generalize l[k] = y at *
        go_wp2_with fail
        go_quiet (fail)
        go_wp2
        go_roundw
        case rel => exact ⟨k + 1, by omega, by go_num, _, rfl⟩
        case measure => simp [intOf]; omega
      · have hkl2 : decide ((k : Int) < (l.length : Int)) = false := by simp; omega
        have hkl3 : (l.length : Int) ≤ (k : Int) := by omega
        rw [HSEV.out k hlt (by omega)] at hc1
        replace hc1 : w6.cell? ⟨g, o + k, none⟩ = some (.int .u8 7) := hc1
        go_wp2_with fail
        go_quiet (fail)
        go_wp2
        go_roundw
        case rel => exact ⟨k + 1, by omega, by go_num, _, rfl⟩
        case measure => simp [intOf]; omega
    · have hkz : ¬ (k : Int) < (l.length : Int) + 8 := by omega
      go_wp2_with fail
      refine (bytes_any A7 A8 c7 c8 r r _ (hol_drewN hA76 q) (hol_drewN hA8 q) (by omega) (by omega)).mono ?_
      rintro e w9 ⟨rfl, hb9⟩
      go_wp2
      go_ret
      exact ⟨by simp, (below_q hb16 q).trans (hb9.mono (below_q hb16 q).size)⟩

theorem walk (a : Option Addr) (len cap : Nat) (l : List UInt8) (size : Int) (hs : (Lit.int .i64 size).wf = true) (x : Int) (hx : (Lit.int .u64 x).wf = true) (w : World) (hl : InB w a len cap l) (hT : Tabs w) :
    Calls Tryd.prog 3 #[.slice a len cap, .int .i64 size, .int .u64 x] w fun e w' => e = .returned (.bool true) ∧ Below w.heap.size w w' := by
  have h1 := bounds_u64 hx
  obtain ⟨x, rfl⟩ := Int.eq_ofNat_of_zero_le h1.1
  by_cases h : 65536 < l.length
  · exact long a len cap l size x w hl hT h
  · exact go a len cap l size x w hl hT (by omega) (by omega)
end Go.Proofs.YtcdgiailapcooaaDoor.wirePuts
