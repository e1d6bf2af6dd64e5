/- The way to a slot, of the program and of the reference: what each call leaves. No conditions. -/
import Derived.Test.YtpkmbgbglefcfaaPn
import Derived.WalkKit
set_option linter.unusedVariables false
namespace Go.Proofs.Ytpkmbgbglefcfaa
open Go.RowKit

/-- The way, of every number. -/
def wayL (d s : Int) : List Int := if 0 ≤ s ∧ s < (sl d : Int) then wy d.toNat s.toNat d.toNat else []
theorem wayL_out {d s : Int} (h : ¬ (0 ≤ s ∧ s < (sl d : Int))) : wayL d s = [] := if_neg h
theorem wayL_in {d s : Nat} (h1 : 1 ≤ d) (h4 : d ≤ 4) (hs : s < pw d) : wayL d s = wy d s d := by
  unfold wayL
  rw [sl_of h1 h4, if_pos (by omega), Int.toNat_natCast, Int.toNat_natCast]
theorem way_cases (d s : Int) : (∃ n m : Nat, d = (n : Int) ∧ s = (m : Int) ∧ 1 ≤ n ∧ n ≤ 4 ∧ m < pw n) ∨ ¬ (0 ≤ s ∧ s < (sl d : Int)) := by
  by_cases h : 0 ≤ s ∧ s < (sl d : Int)
  · left
    have hd : 1 ≤ d ∧ d ≤ 4 := by
      by_cases hd : 1 ≤ d ∧ d ≤ 4
      · exact hd
      · rw [sl_out hd] at h
        omega
    obtain ⟨n, rfl, hn1, hn4⟩ := lv_nat hd.1 hd.2
    rw [sl_of hn1 hn4] at h
    exact ⟨n, s.toNat, rfl, by omega, hn1, hn4, by omega⟩
  · exact .inr h

set_option maxHeartbeats 400000 in
theorem rway_any (d s : Int) (w : World) :
    Calls Try.prog 18 #[.int .i64 d, .int .i64 s] w (IntsPost w (wayL d s)) := by
  rcases way_cases d s with ⟨n, m, rfl, rfl, hn1, hn4, hm⟩ | h
  · rw [wayL_in hn1 hn4 hm]
    have HL := Lib.hid (sl_of hn1 hn4)
    have hm0 : ¬ (m : Int) < 0 := by omega
    have hmp : (m : Int) < (pw n : Int) := by omega
    have hdec : decide (pw n ≤ m) = false := decide_eq_false (by omega)
    have hmx : (m : Int) ≤ 256 := by have := pw_le hn4; omega
    go_enter Try.func18, Try.ntmps18
    go_wp2_with (first
      | (go_at_call 12; refine (rslots_any _ _).mono ?_; rintro e w' ⟨rfl, rfl⟩; rw [HL.out]))
    go_loopw [5, 6] (fun v i wr => ∃ k : Nat, k ≤ n ∧ i = .int .i64 k ∧ ∃ A c, v = .slice A k c ∧ Hid (OwnI w.heap.size wr A k c (wy n m k)) ∧ Hid (Below w.heap.size w wr)) (fun _ i _ => n - (intOf i).toNat)
    case atStart => exact ⟨0, Nat.zero_le _, rfl, none, 0, rfl, Lib.hid (OwnI.nil _ _), Lib.hid (Below.refl _ _)⟩
    case round =>
      obtain ⟨k, hk, rfl, A, c, rfl, HO, HB⟩ := hrel
      by_cases hlt : k < n
      · have hsub : (n : Int) - 1 - (k : Int) = ((n - 1 - k : Nat) : Int) := by omega
        obtain ⟨r, hr⟩ : ∃ r, n - 1 - k = r := ⟨_, rfl⟩
        have hr4 : r ≤ 4 := by omega
        rw [hr] at hsub
        obtain ⟨q, hq⟩ : ∃ q, m / pw r = q := ⟨_, rfl⟩
        have HSTEP : Hid (wy n m (k + 1) = wy n m k ++ [(q : Int) % 4]) := Lib.hid (by rw [wy_succ, hr, hq]; rfl)
        have hqx : q ≤ 256 := by rw [← hq]; exact Nat.le_trans (Nat.div_le_self _ _) (by omega)
        have hdq : (m : Int) / (pw r : Int) = (q : Int) := by rw [← hq]; rfl
        have hq0 : (0 : Int) ≤ (q : Int) := by omega
        have hq1 : (q : Int) ≤ 256 := by omega
        clear hr hq
        have hpr := pw_pos r
        have hpr0 : (0 : Int) ≤ (pw r : Int) := by omega
        have hpr1 : (1 : Int) ≤ (pw r : Int) := by omega
        go_wp2_with (first
          | (go_at_call 21; refine (power_any r hr4 _).mono ?_; rintro e w' ⟨rfl, rfl⟩)
          | (at_builtin; (refine wp_join rfl _ _ rfl rec_int w.heap.size (.slice A k c) k (ic (wy n m k)) rfl (HO.out.alloc _) (some ⟨wr.heap.size, 0, none⟩) 1 1 [.int .i64 ((q : Int) % 4)] rfl rfl (made_src wr [.int .i64 ((q : Int) % 4)] _) (by intro u hu; simp at hu; subst hu; rfl) (by omega) (Nat.le_trans HB.out.size (below_al wr _).size) ?_)
             intro v5 w2 hr2 hg2 hat2
             obtain ⟨A5, c5, rfl, hO5, hB5⟩ := int_more HB.out HO.out hr2 hg2
             have HO5 := Lib.hid hO5
             have HB5 := Lib.hid hB5
             clear hr2 hg2 hat2 hO5 hB5))
        go_roundw
        case rel => exact ⟨k + 1, by omega, by go_num, A5, c5, rfl, by rw [HSTEP.out]; exact HO5, HB5⟩
        case measure => simp [intOf]; omega
      · obtain rfl : k = n := by omega
        go_wp2
        go_ret
        exact IntsPost.mk HO.out HB.out rfl
  · rw [wayL_out h]
    by_cases h0 : s < 0
    · clear h
      go_enter Try.func18, Try.ntmps18
      go_wp2
      go_ret
      exact IntsPost.mk (OwnI.nil _ _) (Below.refl _ _) rfl
    · have h1 : (sl d : Int) ≤ s := by omega
      clear h
      go_enter Try.func18, Try.ntmps18
      go_wp2_with (first
        | (go_at_call 12; refine (rslots_any _ _).mono ?_; rintro e w' ⟨rfl, rfl⟩))
      go_ret
      exact IntsPost.mk (OwnI.nil _ _) (Below.refl _ _) rfl
/-- The first so many steps of a way, the others not yet there. -/
def half (l : List Int) (n : Nat) : List Value := ic l ++ List.replicate (n - l.length) (.int .i64 0)
theorem half_nil (n : Nat) : half [] n = List.replicate n (.int .i64 0) := by simp [half, ic]
theorem half_full {l : List Int} {n : Nat} (h : n = l.length) : half l n = ic l := by simp [half, h]
theorem half_set {l : List Int} {n : Nat} (h : l.length < n) (z : Int) : (half l n).set l.length (.int .i64 z) = half (l ++ [z]) n := by
  unfold half
  rw [show n - l.length = (n - (l ++ [z]).length) + 1 by simp; omega, List.replicate_succ, ic_app]
  rw [List.set_append_right _ _ (by rw [ic_len]; exact Nat.le_refl _), ic_len, Nat.sub_self, List.set_cons_zero, List.append_assoc]
  rfl
theorem half_get {l : List Int} {n k : Nat} (h : l.length ≤ k) (hk : k < n) : (half l n)[k]? = some (.int .i64 0) := by
  unfold half
  rw [List.getElem?_append_right (by rw [ic_len]; exact h), List.getElem?_replicate, ic_len, if_pos (by omega)]
theorem half_len {l : List Int} {n : Nat} (h : l.length ≤ n) : (half l n).length = n := by simp [half, ic_len]; omega
theorem made_ints (n : Nat) : madeCells (Value.int .i64 0).cells (n * 1) = (half [] n).toArray := by
  apply Array.ext'
  apply List.ext_getElem?
  intro j
  have hc : (Value.int IntKind.i64 0).cells = #[Value.int IntKind.i64 0] := rfl
  rw [half_nil]
  by_cases h : j < n
  · simp [madeCells, hc, h, Nat.mod_one]
  · rw [List.getElem?_eq_none (by simp [madeCells, hc]; omega), List.getElem?_eq_none (by simp; omega)]
/-- A row of numbers 0, made. -/
theorem step_make_ints {w : World} {ops : Array Oper} {rest : List Oper} {o : Oper} {a : Act} {Q : Exit → Act → World → Prop} (hg : o.guard = none) (l c : Operand) (hop : o.op = Op.makeSlice 28 l c)
    (n m : Nat) (hl : a.eval l = .int .i64 m) (hc : a.eval c = .int .i64 n) (hmn : m ≤ n) (hn : n ≤ 1000000)
    (h : ∀ g w', Row w' g 3 (half [] n) → Hid (g = w.heap.size) → Below w.heap.size w w' → Hid (w'.heap.size = w.heap.size + 1) → wpList Try.prog ops Q rest (a.put o.dst (.slice (some ⟨g, 0, none⟩) m n)) w') :
    wpList Try.prog ops Q (o :: rest) a w := by
  refine wpList_plain hg fun K hK' => ?_
  obtain ⟨i, z, hi, hz, hs, hby, hzs⟩ := rec_int.inf
  have hz' : z = .int .i64 0 := by
    have h1 : (Try.prog.info? 3).map (·.zero) = some (some (.int .i64 0)) := by kernel_rfl
    rw [hi] at h1
    simp [hz] at h1
    exact h1
  subst hz'
  have hr := run_make (P := Try.prog) w 28 3 i (.int .i64 0) rec_int.ht hi hz .i64 .i64 m n (by omega) (by omega) (by
    have : (i.bytes : Int) ≤ 64 := by omega
    have h2 : (i.bytes : Int) * n ≤ 64 * n := Int.mul_le_mul_of_nonneg_right this (by omega)
    omega) (by omega)
  simp only [Int.toNat_natCast, hs] at hr
  rw [made_ints] at hr
  unfold Oper.wp
  simp [execOp, hop, hl, hc, hr, Result.andThen]
  exact hK' _ _ (h _ _ (Row.made w _ _) (show _ = _ from rfl) ((Below.refl _ _).alloc (Nat.le_refl _) _) (show _ = _ by simp))
theorem row_ownI {w : World} {b g n : Nat} {l : List Int} (h : Row w g 3 (half l n)) (hl : l.length = n) (hb : b ≤ g) (hn : n ≤ maxLen) : OwnI b w (some ⟨g, 0, none⟩) n n l := by
  rw [half_full hl.symm] at h
  refine ⟨by rw [ic_len]; omega, .inr ⟨g, n, (ic l).toArray, rfl, hb, h, Nat.le_refl _, hn, by simp [ic_len, hl], ?_⟩⟩
  rw [Nat.mul_one]
  exact List.take_of_length_le (by rw [ic_len]; omega)
set_option maxHeartbeats 400000 in
theorem way_any (d s : Int) (w : World) :
    Calls Try.prog 16 #[.int .i64 d, .int .i64 s] w (IntsPost w (wayL d s)) := by
  rcases way_cases d s with ⟨n, m, rfl, rfl, hn1, hn4, hm⟩ | h
  · rw [wayL_in hn1 hn4 hm]
    have HT := Lib.hid (p := (decide (0 ≤ (m : Int)) && decide ((m : Int) < (sl (n : Int) : Int))) = true) (by rw [sl_of hn1 hn4]; simp; omega)
    have hmx : (m : Int) ≤ 256 := by have := pw_le hn4; omega
    go_enter Try.func16, Try.ntmps16
    go_wp2_with (first
      | (go_at_call 24; refine (has_any _ _ _).mono ?_; rintro e w' ⟨rfl, rfl⟩; rw [HT.out])
      | (refine step_make_ints rfl _ _ rfl n n rfl rfl (Nat.le_refl _) (by omega) ?_; intro g w3 hr3 hg3 hb3 hs3))
    have HR3 := Lib.hid hr3
    have HB3 := Lib.hid hb3
    have HG3 := Lib.hid (p := w.heap.size ≤ g) (by rw [hg3.out]; exact Nat.le_refl _)
    clear hr3 hg3 hb3 hs3
    go_loopw [14] (fun i wr => ∃ k : Nat, k ≤ n ∧ i = .int .i64 k ∧ Hid (Row wr g 3 (half (wy n m k) n)) ∧ Hid (Below w.heap.size w wr)) (fun i _ => n - (intOf i).toNat)
    case atStart => exact ⟨0, Nat.zero_le _, rfl, HR3, HB3⟩
    case round =>
      clear HR3 HB3
      obtain ⟨k, hk, rfl, HR, HB⟩ := hrel
      by_cases hlt : k < n
      · have hsub : (n : Int) - 1 - (k : Int) = ((n - 1 - k : Nat) : Int) := by omega
        obtain ⟨r, hr⟩ : ∃ r, n - 1 - k = r := ⟨_, rfl⟩
        have hr4 : r ≤ 4 := by omega
        rw [hr] at hsub
        obtain ⟨q, hq⟩ : ∃ q, m / pw r = q := ⟨_, rfl⟩
        have HSTEP : Hid (wy n m (k + 1) = wy n m k ++ [(q : Int) % 4]) := Lib.hid (by rw [wy_succ, hr, hq]; rfl)
        have hqx : q ≤ 256 := by rw [← hq]; exact Nat.le_trans (Nat.div_le_self _ _) (by omega)
        have hdq : (m : Int) / (pw r : Int) = (q : Int) := by rw [← hq]; rfl
        have hq0 : (0 : Int) ≤ (q : Int) := by omega
        have hq1 : (q : Int) ≤ 256 := by omega
        clear hr hq
        have hpr := pw_pos r
        have hpr0 : (0 : Int) ≤ (pw r : Int) := by omega
        have hpr1 : (1 : Int) ≤ (pw r : Int) := by omega
        have hc : wr.cell? ⟨g, k, none⟩ = some (.int .i64 0) := by rw [HR.out.cell]; exact half_get (by rw [wy_len]; exact Nat.le_refl _) hlt
        have hf : wr.frozen? ⟨g, k, none⟩ = false := HR.out.free k
        go_wp2_with (first
          | (go_at_call 23; refine (width_any r hr4 _).mono ?_; rintro e w' ⟨rfl, rfl⟩))
        go_roundw
        case rel =>
          refine ⟨k + 1, by omega, by go_num, Lib.hid ?_, Lib.hid (HB.out.setCell HG3.out _)⟩
          have h1 := HR.out.put k (.int .i64 ((q : Int) % 4))
          have h2 := half_set (l := wy n m k) (n := n) (by rw [wy_len]; exact hlt) ((q : Int) % 4)
          rw [wy_len] at h2
          rw [HSTEP.out, ← h2]
          exact h1
        case measure => simp [intOf]; omega
      · obtain rfl : k = n := by omega
        go_wp2
        go_ret
        exact IntsPost.mk (row_ownI HR.out (wy_len _ _ _) HG3.out (by unfold maxLen; omega)) HB.out rfl
  · rw [wayL_out h]
    have HT := Lib.hid (p := (decide (0 ≤ s) && decide (s < (sl d : Int))) = false) (by
      cases h9 : (decide (0 ≤ s) && decide (s < (sl d : Int)))
      · rfl
      · simp at h9
        exact absurd h9 h)
    clear h
    go_enter Try.func16, Try.ntmps16
    go_wp2_with (first
      | (go_at_call 24; refine (has_any _ _ _).mono ?_; rintro e w' ⟨rfl, rfl⟩; rw [HT.out]))
    go_ret
    exact IntsPost.mk (OwnI.nil _ _) (Below.refl _ _) rfl
end Go.Proofs.Ytpkmbgbglefcfaa
