/- Plain facts on what is synced and what waits; what a law wants of each block, in memory. No conditions but those named. -/
import Derived.Test.YtnajlineipapdaaPBar
import Derived.Test.YtnajlineipapdaaAwakeD
import Derived.Test.YtnajlineipapdaaMgBin
import Derived.Laws.Bits128
set_option linter.unusedVariables false
namespace Go.Proofs.Ytnajlineipapdaa
open Go.RowKit

theorem nowV_snoc (ss : List BV) (rs : List (Nat × BV)) (p : Nat × BV) (a : Nat) : nowV ss (rs ++ [p]) a = if p.1 = a then p.2 else nowV ss rs a := by
  unfold nowV
  rw [List.length_append, List.length_singleton, nowK_step (p := p) (by simp)]
  have : nowK ss (rs ++ [p]) a rs.length = nowK ss rs a rs.length := by
    unfold nowK
    rw [List.take_append_of_le_length (Nat.le_refl _)]
  rw [this]
theorem sync_now (rs : List (Nat × BV)) (ss : List BV) (a : Nat) (ha : a < ss.length) (hr : ∀ p ∈ rs, p.1 < ss.length) : ∀ k, (syncK (fun _ => true) rs ss k).getD a noBV = nowK ss rs a k
  | 0 => by rw [nowK_zero]; rfl
  | k + 1 => by
    cases hp : rs[k]? with
    | none =>
      have e1 : nowK ss rs a (k + 1) = nowK ss rs a k := by
        unfold nowK
        rw [List.take_add_one, hp]
        simp
      have e2 : syncK (fun _ => true) rs ss (k + 1) = syncK (fun _ => true) rs ss k := by rw [syncK, hp]
      rw [e1, e2]
      exact sync_now rs ss a ha hr k
    | some p =>
      rw [nowK_step hp, syncK_step hp, if_pos rfl]
      by_cases e : p.1 = a
      · subst e
        rw [if_pos rfl, List.getD_eq_getElem?_getD, List.getElem?_set_self (by rw [syncK_len]; exact ha)]
        rfl
      · rw [if_neg e, List.getD_eq_getElem?_getD, List.getElem?_set_ne e, ← List.getD_eq_getElem?_getD]
        exact sync_now rs ss a ha hr k
theorem syncK_pre (keep : Nat → Bool) (rs : List (Nat × BV)) (p : Nat × BV) (ss : List BV) : ∀ k, k ≤ rs.length → syncK keep (rs ++ [p]) ss k = syncK keep rs ss k
  | 0, _ => rfl
  | k + 1, h => by
    unfold syncK
    rw [List.getElem?_append_left (by omega), syncK_pre keep rs p ss k (by omega)]
theorem syncK_snoc (keep : Nat → Bool) (rs : List (Nat × BV)) (p : Nat × BV) (ss : List BV) : syncK keep (rs ++ [p]) ss (rs ++ [p]).length = if keep rs.length = true then (syncK keep rs ss rs.length).set p.1 p.2 else syncK keep rs ss rs.length := by
  rw [List.length_append, List.length_singleton, syncK_step (p := p) (by simp), syncK_pre keep rs p ss _ (Nat.le_refl _)]
theorem pad_pad (l : List UInt8) : pad (pad l) = pad l := pad_of (pad_len l)
theorem nowV_nil (ss : List BV) (a : Nat) : nowV ss [] a = ss.getD a noBV := by simp [nowV, nowK]
theorem and_seven (z : Int) : ∃ m : Nat, m < 8 ∧ bits .and .i64 z 7 = (m : Int) := by
  have h7 : (BitVec.ofInt 64 7).toNat = 2 ^ 3 - 1 := by decide
  have key : (BitVec.ofInt 64 z &&& BitVec.ofInt 64 7).toNat = (z % ((2 ^ 64 : Nat) : Int)).toNat % 2 ^ 3 := by
    rw [BitVec.toNat_and, BitVec.toNat_ofInt, h7, Nat.and_two_pow_sub_one_eq_mod]
  refine ⟨(z % ((2 ^ 64 : Nat) : Int)).toNat % 2 ^ 3, Nat.mod_lt _ (by decide), ?_⟩
  show IntKind.i64.wrap ((BitVec.ofInt 64 z &&& BitVec.ofInt 64 7).toNat : Nat) = _
  rw [key, IntKind.wrap_i64]
  omega
theorem Own8.len_max {b : Nat} {w : World} {x : BV} (h : Own8 b w x) : x.l.length ≤ 9223372036854775807 := by
  have h1 := h.cap
  rcases h.2 with ⟨_, h0⟩ | ⟨g, cap, cur, e0, _, _, hn, hc, _⟩
  · omega
  · unfold maxLen at hc
    omega
/-- A row of m wants: the bytes that each block should be. -/
structure WantAt (B : Nat) (w : World) (gw m : Nat) (F : List Nat) (wv : List BV) : Prop where
  row : Row w gw 32 (wv.map bvv)
  len : wv.length = m
  out : gw ∉ F
  lo : B ≤ gw
  own : ∀ y ∈ wv, Own8 B w y
theorem WantAt.turn {B : Nat} {w w' : World} {gw m : Nat} {F F' : List Nat} {wv : List BV} (h : WantAt B w gw m F wv) (hc : Chg F w w') (hn : NoBytes w F) (hW : Wider w F F') : WantAt B w' gw m F' wv :=
  ⟨hc.row h.row h.out, h.len, fun hx => by
    rcases hW _ hx with e | e
    · exact h.out e
    · have := h.row.lt
      omega, h.lo, fun y hy => (h.own y hy).chg hc hn⟩
theorem WantAt.kept {B : Nat} {w w' : World} {gw m : Nat} {F : List Nat} {wv : List BV} (h : WantAt B w gw m F wv) (hb : Below w.heap.size w w') : WantAt B w' gw m F wv :=
  ⟨h.row.kept hb, h.len, h.out, h.lo, fun y hy => (h.own y hy).below hb⟩
theorem WantAt.cell {B : Nat} {w : World} {gw m : Nat} {F : List Nat} {wv : List BV} (h : WantAt B w gw m F wv) {a : Nat} (ha : a < m) : w.cell? ⟨gw, a, none⟩ = some (bvv (wv.getD a noBV)) := by
  rw [h.row.cell, List.getElem?_map, List.getD_eq_getElem?_getD, List.getElem?_eq_getElem (by rw [h.len]; exact ha)]
  rfl
theorem WantAt.mem {B : Nat} {w : World} {gw m : Nat} {F : List Nat} {wv : List BV} (h : WantAt B w gw m F wv) {a : Nat} (ha : a < m) : Own8 B w (wv.getD a noBV) := by
  rw [List.getD_eq_getElem?_getD, List.getElem?_eq_getElem (by rw [h.len]; exact ha)]
  exact h.own _ (List.getElem_mem _)
theorem WantAt.put {B : Nat} {w : World} {gw m : Nat} {F : List Nat} {wv : List BV} (h : WantAt B w gw m F wv) (a : Nat) (y : BV) (hy : Own8 B w y) : WantAt B (w.setCell ⟨gw, a, none⟩ (bvv y)) gw m F (wv.set a y) :=
  ⟨by rw [List.map_set]; exact h.row.put a _, by rw [List.length_set]; exact h.len, h.out, h.lo, fun z hz => by
    rcases List.mem_or_eq_of_mem_set hz with hz | rfl
    · exact (h.own z hz).put h.row (by decide) _
    · exact hy.put h.row (by decide) _⟩
theorem want_made {w : World} {gw m : Nat} (h : Row w gw 32 (fill m 0 nos)) {F : List Nat} (hF : gw ∉ F) {B : Nat} (hB : B ≤ gw) : WantAt B w gw m F (List.replicate m noBV) :=
  ⟨by
    have e1 : (List.replicate m noBV).map bvv = fill m 0 nos := by simp [fill]; exact .inr rfl
    rw [e1]
    exact h, by simp, hF, hB, fun y hy => by rw [List.eq_of_mem_replicate hy]; exact Own8.none_ _ _⟩
/-- What is wanted of each block is what v says. -/
def Agree (m : Nat) (v : Nat → BV) (wv : List BV) : Prop := ∀ a, a < m → (v a).l = pad (wv.getD a noBV).l
theorem getD_set (wv : List BV) (a i : Nat) (y : BV) (ha : a < wv.length) : (wv.set a y).getD i noBV = if a = i then y else wv.getD i noBV := by
  rw [List.getD_eq_getElem?_getD, List.getD_eq_getElem?_getD, List.getElem?_set]
  by_cases e : a = i
  · subst e
    simp [ha]
  · simp [e]
theorem Agree.wrote {m : Nat} {ss : List BV} {rs : List (Nat × BV)} {wv : List BV} (h : Agree m (nowV ss rs) wv) (hw : wv.length = m) {a : Nat} (ha : a < m) {x y : BV} {l : List UInt8} (hx : x.l = pad l) (hy : y.l = pad l) : Agree m (nowV ss (rs ++ [(a, x)])) (wv.set a y) := fun i hi => by
  rw [nowV_snoc, getD_set _ _ _ _ (by omega)]
  by_cases e : a = i
  · simp only [e, if_pos]
    rw [hx, hy, pad_pad]
  · simp only [e, if_false]
    exact h i hi
theorem Agree.synced {m : Nat} {ss : List BV} {rs : List (Nat × BV)} {wv : List BV} (h : Agree m (nowV ss rs) wv) (hs : ss.length = m) (hr : ∀ p ∈ rs, p.1 < ss.length) : Agree m (fun a => (syncK (fun _ => true) rs ss rs.length).getD a noBV) wv := fun i hi => by
  show ((syncK (fun _ => true) rs ss rs.length).getD i noBV).l = _
  rw [sync_now rs ss i (by omega) hr]
  exact h i hi
theorem Agree.keeps {m : Nat} {keep : Nat → Bool} {ss : List BV} {rs : List (Nat × BV)} {wv : List BV} (h : Agree m (fun a => (syncK keep rs ss rs.length).getD a noBV) wv) (hs : ss.length = m) (hw : wv.length = m) {a : Nat} (ha : a < m) {x y : BV} {l : List UInt8} (hx : x.l = pad l) (hy : y.l = pad l) (hk : keep rs.length = true) :
    Agree m (fun i => (syncK keep (rs ++ [(a, x)]) ss (rs ++ [(a, x)]).length).getD i noBV) (wv.set a y) := fun i hi => by
  show ((syncK keep (rs ++ [(a, x)]) ss (rs ++ [(a, x)]).length).getD i noBV).l = _
  rw [syncK_snoc, if_pos hk, getD_set _ _ _ _ (by rw [syncK_len]; omega), getD_set _ _ _ _ (by omega)]
  by_cases e : a = i
  · simp only [e, if_pos]
    rw [hx, hy, pad_pad]
  · simp only [e, if_false]
    exact h i hi
theorem Agree.loses {m : Nat} {keep : Nat → Bool} {ss : List BV} {rs : List (Nat × BV)} {wv : List BV} (h : Agree m (fun a => (syncK keep rs ss rs.length).getD a noBV) wv) {a : Nat} {x : BV} (hk : keep rs.length = false) :
    Agree m (fun i => (syncK keep (rs ++ [(a, x)]) ss (rs ++ [(a, x)]).length).getD i noBV) wv := fun i hi => by
  show ((syncK keep (rs ++ [(a, x)]) ss (rs ++ [(a, x)]).length).getD i noBV).l = _
  rw [syncK_snoc, if_neg (by rw [hk]; decide)]
  exact h i hi
end Go.Proofs.Ytnajlineipapdaa
