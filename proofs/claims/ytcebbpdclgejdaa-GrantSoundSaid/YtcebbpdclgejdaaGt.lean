/- Package grant: which slots and inodes are numbers of one, a slot taken, given. No conditions but those named. -/
import Derived.Test.YtcebbpdclgejdaaGs
import Derived.StillTailTactics
import Derived.Deep.QuietTactic
import Derived.BigQuiet
set_option linter.unusedVariables false
set_option maxRecDepth 20000
namespace Go.Proofs.Ytcebbpdclgejdaa
open Go.RowKit

theorem below_nxt {w u v : World} (hb : Below u.heap.size u v) (ha : Below w.heap.size w u) : Below w.heap.size w v := ha.trans (hb.mono ha.size)
theorem wp_min {P : Program} {w : World} {ops : Array Oper} {rest : List Oper} {o : Oper} {a : Act} {Q : Exit → Act → World → Prop} (hgd : o.guard = none) (s x : Operand) (ts : Array TypeId) (ho : o.op = .call { callee := .builtin .min, args := #[s, x], argTypes := ts })
    (p q m : Int) (hs : a.eval s = .int .i64 p) (hx : a.eval x = .int .i64 q) (hm : (if q < p then q else p) = m) (h : wpList P ops Q rest (a.put o.dst (.int .i64 m)) w) : wpList P ops Q (o :: rest) a w := by
  refine wpList_plain hgd fun K hK => ?_
  subst hm
  unfold Oper.wp execOp
  simp only [ho, resolve, invoke, builtin, Sem.run_bind, Sem.run_pure, Result.andThen_ok, List.map_toArray, List.map_cons, List.map_nil, hs, hx, run_min_int2]
  exact hK _ _ h

theorem isslot_any (z : Int) (w : World) : Calls Try.prog 33 #[.int .i64 z] w fun e w' => e = .returned (.bool (decide (0 ≤ z) && decide (z < 256))) ∧ w = w' := by
  by_cases h0 : 0 ≤ z
  · rw [decide_eq_true h0, Bool.true_and]
    go_enter Try.func33, Try.ntmps33
    go_wp2
    go_ret
    exact ⟨rfl, rfl⟩
  · rw [decide_eq_false h0, Bool.false_and]
    go_enter Try.func33, Try.ntmps33
    go_wp2
    go_ret
    exact ⟨rfl, rfl⟩
theorem isino_any (z : Int) (w : World) : Calls Try.prog 32 #[.int .i64 z] w fun e w' => e = .returned (.bool (decide (1 ≤ z) && decide (z ≤ 64))) ∧ w = w' := by
  by_cases h0 : 1 ≤ z
  · rw [decide_eq_true h0, Bool.true_and]
    go_enter Try.func32, Try.ntmps32
    go_wp2
    go_ret
    exact ⟨rfl, rfl⟩
  · rw [decide_eq_false h0, Bool.false_and]
    go_enter Try.func32, Try.ntmps32
    go_wp2
    go_ret
    exact ⟨rfl, rfl⟩
/-- Behind a row that was stored into a block of the call's own. -/
theorem below_own {w w1 w2 : World} {g : Nat} (h : Below w.heap.size w w1) (hg : w1.grownBy w2 (some g)) (hq : w.heap.size ≤ g) : Below w.heap.size w w2 := h.grown hg h.size (fun q e => by injection e with e; subst e; exact hq)
theorem take_ok (x : Sup) (z : Int) (k : Nat) (hk : k < 256) (hz : (k : Int) < z) (hu : x.u k = false) (hb : ∀ j, j < k → x.u j = true) (w : World) : Calls Try.prog 14 #[.agg x.cs.toArray, .int .i64 z] w fun e w' => e = .returned (.tuple #[.agg (x.setU k true).cs.toArray, .int .i64 (k : Int), .int .i64 0]) ∧ Below w.heap.size w w' := by
  obtain ⟨m, hm⟩ : ∃ m : Int, (if (256 : Int) < z then 256 else z) = m := ⟨_, rfl⟩
  have hkm : (k : Int) < m := by rw [← hm]; split <;> omega
  have HM := Lib.hid hm
  have HK := Lib.hid hk
  have HU := Lib.hid hu
  have HUB := Lib.hid hb
  have HKM := Lib.hid hkm
  have i1 := Lib.hid (fun x : Sup => info_cs x)
  have hz0 := Lib.hid zero_sup
  clear hm hk hz hu hb hkm
  go_enter Try.func14, Try.ntmps14
  go_wp2_with (first
    | (refine step_box rfl 2 rfl 27 (.tmp 0) rfl x.cs rfl ?_; intro g2 w2 hr2 hg2 hb2 hs2
       have R2 := Lib.hid hr2
       have HB2 := Lib.hid hb2
       have Q2 := Lib.hid (p := w.heap.size ≤ g2) (by rw [hg2.out]; exact Nat.le_refl _)
       clear hr2 hb2 hg2 hs2)
    | (refine step_alloc rfl 4 rfl 27 rfl _ hz0.out ?_; intro g4 w4 hr4 hg4 hb4 hs4
       have R4 := Lib.hid hr4
       have R24 := Lib.hid (R2.out.kept hb4)
       have HB4 := Lib.hid (below_nxt hb4 HB2.out)
       have N24 := Lib.hid (p := g2 < g4) (by rw [hg4.out]; exact R2.out.lt)
       clear hr4 hb4 hg4 hs4)
    | (refine wp_min rfl _ _ _ rfl _ _ m rfl rfl HM.out ?_))
  go_loopw [10] (fun y wr => ∃ j : Nat, j ≤ k ∧ y = .int .i64 (j : Int) ∧ Hid (Row wr g2 27 x.cs) ∧ Hid (Row wr g4 27 sup0.cs) ∧ Hid (Below w.heap.size w wr)) (fun y _ => 256 - (intOf y).toNat)
  case atStart => exact ⟨0, by omega, rfl, R24, R4, HB4⟩
  case round =>
    clear R24 R4 HB4 R2 HB2
    obtain ⟨j, hj, rfl, HR2, HR4, HB⟩ := hrel
    have hjm : (j : Int) < m := by have := HKM.out; omega
    have hj256 : (j : Int) < 256 := by have := HK.out; omega
    have hw : IntKind.i64.wrap ((j : Int) + 1) = (j : Int) + 1 := by rw [IntKind.wrap_i64]; omega
    by_cases e : j = k
    · subst e
      have c1 : wr.cell? ⟨g2, 1 + j, none⟩ = some (.bool false) := by rw [HR2.out.cell, x.c_u HK.out, HU.out]
      have f1 := HR2.out.free (1 + j)
      clear hj
      go_wp2_with (first
        | (refine step_load rfl 21 rfl 27 (.tmp 2) rfl g2 rfl (x.setU j true).cs _ (Row.all (by have h := HR2.out.put (1 + j) (.bool true); rw [x.set_u true HK.out] at h; exact h)) Try.underlying27 rfl (i1.out _) ?_)
        | (refine step_store rfl 27 (.tmp 4) (.tmp 21) rfl g4 (by rfl) _ sup0.cs (x.setU j true).cs (by rfl) (HR4.out.far (p := ⟨g2, 1 + j, none⟩) (by have := N24.out; intro e; simp at e; omega) _) (by rw [Sup.cs_len, Sup.cs_len]) (i1.out _) (Sup.cs_one _) ?_; intro w9 hr9 hg9 hs9))
      refine bodyPost_ret (results_row_two rfl _ _ g4 _ _ _ _ rfl hr9 Try.underlying27 rfl (by simpa using i1.out _)) rfl ?_
      exact ⟨rfl, below_own (HB.out.setCell Q2.out _) hg9 (by have := N24.out; have := Q2.out; omega)⟩
    · have hjk : j < k := by omega
      have c1 : wr.cell? ⟨g2, 1 + j, none⟩ = some (.bool true) := by rw [HR2.out.cell, x.c_u (by omega), HUB.out j hjk]
      have HJ := Lib.hid hjk
      clear hj e hjk
      go_wp2
      go_roundw
      case rel => exact ⟨j + 1, by have := HJ.out; omega, by go_num, HR2, HR4, HB⟩
      case measure => simp [intOf]; omega
theorem take_no (x : Sup) (z : Int) (hb : ∀ j : Nat, j < 256 → (j : Int) < z → x.u j = true) (w : World) : Calls Try.prog 14 #[.agg x.cs.toArray, .int .i64 z] w fun e w' => e = .returned (.tuple #[.agg x.cs.toArray, .int .i64 0, .int .i64 28]) ∧ Below w.heap.size w w' := by
  obtain ⟨m, hm⟩ : ∃ m : Int, (if (256 : Int) < z then 256 else z) = m := ⟨_, rfl⟩
  have hkm : ∀ j : Nat, (j : Int) < m → j < 256 ∧ x.u j = true := by
    intro j hj
    rw [← hm] at hj
    split at hj
    · exact ⟨by omega, hb j (by omega) (by omega)⟩
    · exact ⟨by omega, hb j (by omega) hj⟩
  have HM := Lib.hid hm
  have HKM := Lib.hid hkm
  have i1 := Lib.hid (fun x : Sup => info_cs x)
  have hz0 := Lib.hid zero_sup
  clear hm hb hkm
  go_enter Try.func14, Try.ntmps14
  go_wp2_with (first
    | (refine step_box rfl 2 rfl 27 (.tmp 0) rfl x.cs rfl ?_; intro g2 w2 hr2 hg2 hb2 hs2
       have R2 := Lib.hid hr2
       have HB2 := Lib.hid hb2
       have Q2 := Lib.hid (p := w.heap.size ≤ g2) (by rw [hg2.out]; exact Nat.le_refl _)
       clear hr2 hb2 hg2 hs2)
    | (refine step_alloc rfl 4 rfl 27 rfl _ hz0.out ?_; intro g4 w4 hr4 hg4 hb4 hs4
       have R4 := Lib.hid hr4
       have R24 := Lib.hid (R2.out.kept hb4)
       have HB4 := Lib.hid (below_nxt hb4 HB2.out)
       have N24 := Lib.hid (p := g2 < g4) (by rw [hg4.out]; exact R2.out.lt)
       clear hr4 hb4 hg4 hs4)
    | (refine wp_min rfl _ _ _ rfl _ _ m rfl rfl HM.out ?_))
  go_loopw [10] (fun y wr => ∃ j : Nat, j ≤ 256 ∧ y = .int .i64 (j : Int) ∧ Hid (Row wr g2 27 x.cs) ∧ Hid (Row wr g4 27 sup0.cs) ∧ Hid (Below w.heap.size w wr)) (fun y _ => 256 - (intOf y).toNat)
  case atStart => exact ⟨0, by omega, rfl, R24, R4, HB4⟩
  case round =>
    clear R24 R4 HB4 R2 HB2
    obtain ⟨j, hj, rfl, HR2, HR4, HB⟩ := hrel
    by_cases hjm : (j : Int) < m
    · have hj256 : (j : Int) < 256 := by have := (HKM.out j hjm).1; omega
      have hw : IntKind.i64.wrap ((j : Int) + 1) = (j : Int) + 1 := by rw [IntKind.wrap_i64]; omega
      have c1 : wr.cell? ⟨g2, 1 + j, none⟩ = some (.bool true) := by rw [HR2.out.cell, x.c_u (by omega), (HKM.out j hjm).2]
      go_wp2
      go_roundw
      case rel => exact ⟨j + 1, by omega, by go_num, HR2, HR4, HB⟩
      case measure => simp [intOf]; omega
    · go_wp2_with (first
        | (refine step_load rfl 24 rfl 27 (.tmp 2) rfl g2 rfl x.cs _ HR2.out.all Try.underlying27 rfl (i1.out _) ?_)
        | (refine step_store rfl 27 (.tmp 4) (.tmp 24) rfl g4 (by rfl) _ sup0.cs x.cs (by rfl) HR4.out (by rw [Sup.cs_len, Sup.cs_len]) (i1.out _) (Sup.cs_one _) ?_; intro w9 hr9 hg9 hs9))
      refine bodyPost_ret (results_row_two rfl _ _ g4 _ _ _ _ rfl hr9 Try.underlying27 rfl (by simpa using i1.out _)) rfl ?_
      exact ⟨rfl, below_own HB.out hg9 (by have := N24.out; have := Q2.out; omega)⟩
end Go.Proofs.Ytcebbpdclgejdaa
