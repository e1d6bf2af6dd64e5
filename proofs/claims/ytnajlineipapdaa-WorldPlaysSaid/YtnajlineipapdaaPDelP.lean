/- Rows of waiting writes as they are written in place: a record set, cells cleared, the row cut. No conditions but those named. -/
import Derived.Test.YtnajlineipapdaaMgPApi
import Derived.Test.YtnajlineipapdaaAnch
import Derived.Laws.OwnMore
set_option linter.unusedVariables false
namespace Go.Proofs.Ytnajlineipapdaa
open Go.RowKit

theorem wcs_set : ∀ (L : List (Nat × BV)) (i : Nat) (v : Nat × BV), ((L.flatMap wcs).set (i * 2) (.int .i64 (v.1 : Int))).set (i * 2 + 1) (bvv v.2) = (L.set i v).flatMap wcs
  | [], i, v => by simp
  | p :: t, 0, v => by simp [wcs]
  | p :: t, i + 1, v => by
    have h := wcs_set t i v
    rw [List.set_cons_succ, List.flatMap_cons, List.flatMap_cons, ← h]
    show (([Value.int .i64 (p.1 : Int), bvv p.2] ++ t.flatMap wcs).set ((i + 1) * 2) _).set ((i + 1) * 2 + 1) _ = _
    rw [show (i + 1) * 2 = i * 2 + 1 + 1 by omega]
    simp [wcs]
/-- A record set in a row of the call's own. -/
theorem own_set2 {w : World} {b g n c : Nat} {L : List (Nat × BV)} (h : w.ownsRow b 79 2 (.slice (some ⟨g, 0, none⟩) n c) n (L.flatMap wcs)) (i : Nat) (v : Nat × BV) :
    ((w.setCell ⟨g, i * 2, none⟩ (.int .i64 (v.1 : Int))).setCell ⟨g, i * 2 + 1, none⟩ (bvv v.2)).ownsRow b 79 2 (.slice (some ⟨g, 0, none⟩) n c) n ((L.set i v).flatMap wcs) := by
  have h1 := (h.stored (i * 2) (.int .i64 (v.1 : Int))).1
  have h2 := (h1.stored (i * 2 + 1) (bvv v.2)).1
  rw [wcs_set] at h2
  exact h2
/-- A row's block as cells. -/
theorem own_row {w : World} {b g n c k : Nat} {e : TypeId} {xs : List Value} (h : w.ownsRow b e k (.slice (some ⟨g, 0, none⟩) n c) n xs) : ∃ cur : List Value, Row w g e cur ∧ cur.length = c * k ∧ cur.take (n * k) = xs ∧ n ≤ c ∧ c ≤ maxLen ∧ b ≤ g := by
  rcases h.2 with ⟨h', _⟩ | ⟨g', cap', cur, h', hb, hg, hnc, hcm, hcs, htake⟩
  · simp at h'
  · simp only [Value.slice.injEq, Option.some.injEq, Addr.mk.injEq, and_true, true_and] at h'
    obtain ⟨rfl, rfl⟩ := h'
    exact ⟨cur.toList, by unfold Row; simpa using hg, by simpa using hcs, htake, hnc, hcm, hb⟩
theorem row_own {w : World} {b g n c k : Nat} {e : TypeId} {cur : List Value} (h : Row w g e cur) (hl : cur.length = c * k) (hn : n ≤ c) (hm : c ≤ maxLen) (hb : b ≤ g) : w.ownsRow b e k (.slice (some ⟨g, 0, none⟩) n c) n (cur.take (n * k)) :=
  ⟨by rw [List.length_take, hl]; exact Nat.min_eq_left (Nat.mul_le_mul_right k hn), .inr ⟨g, c, cur.toArray, rfl, hb, h.heap, hn, hm, by simpa using hl, rfl⟩⟩
theorem row_cells2 {g : Nat} {t : TypeId} : ∀ (cs : List Value) (o : Nat) (w : World) (ol : List Value), Row w g t ol →
    ∃ ol', Row (w.setCells g o cs) g t ol' ∧ ol'.length = ol.length ∧ ol'.take o = ol.take o ∧ w.grownBy (w.setCells g o cs) (some g)
  | [], o, w, ol, h => ⟨ol, h, rfl, rfl, rfl, rfl, rfl, Nat.le_refl _, fun _ _ _ => rfl⟩
  | v :: r, o, w, ol, h => by
    obtain ⟨ol', h1, h2, h3, h4⟩ := row_cells2 r (o + 1) (w.setCell ⟨g, o, none⟩ v) _ (h.put o v)
    refine ⟨ol', h1, by rw [h2, List.length_set], ?_, grown_trans (grown_set w ⟨g, o, none⟩ v) h4⟩
    have h5 := congrArg (List.take o) h3
    rw [List.take_take, List.take_take, Nat.min_eq_left (Nat.le_succ o)] at h5
    rw [h5, List.take_set_of_le (Nat.le_refl _)]
/-- The cells behind the first i records cleared, and the row cut there. -/
theorem run_clear_tail (w : World) (ty : TypeId) (b g n c i : Nat) (L : List (Nat × BV)) (hL : L.length = n) (h : w.ownsRow b 79 2 (.slice (some ⟨g, 0, none⟩) n c) n (L.flatMap wcs)) (hi : i < n) :
    ∃ w', (Builtin.clear_ #[71] ty #[.slice (some ⟨g, i * 2, none⟩) (n - i) (c - i)]).run Try.prog w = .ok (.tuple #[]) w' ∧ w'.ownsRow b 79 2 (.slice (some ⟨g, 0, none⟩) i c) i ((L.take i).flatMap wcs) ∧ w.grownBy w' (some g) := by
  obtain ⟨cur, hr, hl, ht, hnc, hcm, hb⟩ := own_row h
  have hz : (zeroValue 79).run Try.prog w = .ok (.agg #[Value.int .i64 0, .slice none 0 0]) w := by kernel_rfl
  obtain ⟨zs, hzs⟩ : ∃ zs, (Builtin.zeroCells (Value.agg #[Value.int .i64 0, .slice none 0 0]).cells (n - i)).toList = zs := ⟨_, rfl⟩
  have hc2 : (Value.agg #[Value.int .i64 0, .slice none 0 0]).cells = #[Value.int .i64 0, .slice none 0 0] := rfl
  have hzl : zs.length = (n - i) * 2 := by rw [← hzs, hc2]; simp [Builtin.zeroCells]
  have hz1 : ∀ v ∈ zs, v.oneCell' = true := by
    intro v hv
    rw [← hzs, hc2] at hv
    simp only [Builtin.zeroCells, Array.toList_map, List.mem_map] at hv
    obtain ⟨j, _, rfl⟩ := hv
    have hj2 : j % 2 = 0 ∨ j % 2 = 1 := by omega
    rcases hj2 with e | e <;> simp [e, Value.oneCell']
  have hst := run_storeCells_cells (P := Try.prog) g (i * 2) zs 0 w (fun j hj => by
    rw [hr.cell, List.getElem?_eq_getElem (by rw [hl]; omega)]
    rfl) (fun j hj => hr.free _) hz1
  obtain ⟨ol', h1, h2, h3, h4⟩ := row_cells2 zs (i * 2) w cur hr
  rw [Nat.add_zero] at hst
  obtain ⟨m, hm⟩ : ∃ m, n - i = m + 1 := ⟨n - i - 1, by omega⟩
  refine ⟨_, ?_, ?_, h4⟩
  · rw [hm]
    rw [hm] at hzs
    simp [Builtin.clear_, run_underlying Try.underlying71, hz, hzs, hst]
  · have h5 := row_own (b := b) (n := i) (c := c) (k := 2) h1 (by rw [h2, hl]) (by omega) hcm hb
    rw [h3] at h5
    have h6 : cur.take (i * 2) = (L.take i).flatMap wcs := by
      have h7 : cur.take (i * 2) = (L.flatMap wcs).take (i * 2) := by rw [← ht, List.take_take, Nat.min_eq_left (by omega)]
      rw [h7]
      have h8 : L = L.take i ++ L.drop i := (List.take_append_drop i L).symm
      conv => lhs; rw [h8, List.flatMap_append]
      rw [List.take_append_of_le_length (by rw [flat_len wcs_len, List.length_take]; omega), List.take_of_length_le (by rw [flat_len wcs_len, List.length_take]; omega)]
    rw [h6] at h5
    exact h5
end Go.Proofs.Ytnajlineipapdaa
