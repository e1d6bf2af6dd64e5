/- The law's rising: some truth. Conditions: no more than a thousand entries, names no longer than 2^32. -/
import Derived.Test.YtijffkklhgnknaaDoorTp
import Derived.Test.YtijffkklhgnknaaDoorRg
set_option linter.unusedVariables false
set_option maxRecDepth 20000
namespace Go.Proofs.YtijffkklhgnknaaDoor
open Go.RowKit
theorem neq_is (w : World) {a : Act} (o : Oper) (t' : TypeId) (x y : Operand) (ho : o.op = .binOp .neq 42 x y t') (p q : Ent) (hx : a.eval x = .agg (ecs p).toArray) (hy : a.eval y = .agg (ecs q).toArray) (b : Bool) (hb : (!(eqE p q)) = b) : (execOp a.eval o).run Tryd.prog w = .ok (.value (.bool b)) w := by
  have h := run_neq_ent w o t' x y ho p q hx hy
  rwa [hb] at h
def BoolP (e : Ending) : Prop := ∃ z : Bool, e = .returned (.bool z)
theorem ins_mem {R : List Ent} {x : Ent} {z : Nat} {P : Ent → Prop} (hR : ∀ e ∈ R, P e) (hx : P x) : ∀ e ∈ R.take z ++ x :: R.drop z, P e := fun e he => by
  rcases List.mem_append.1 he with he | he
  · exact hR e (List.mem_of_mem_take he)
  · rcases List.mem_cons.1 he with rfl | he
    · exact hx
    · exact hR e (List.mem_of_mem_drop he)
set_option maxHeartbeats 8000000 in
theorem rising_any (A : Option Addr) (n c : Nat) (X : List Ent) (hmax : n ≤ 1000) (w : World) (h : Lies ecs 5 w A X) (hn : X.length = n) (hnm : ∀ e ∈ X, e.nm.size ≤ 4294967296) :
    Calls Tryd.prog 22 #[.slice A n c] w fun e w' => BoolP e ∧ Below w.heap.size w w' := by
  have H := Lib.hid h
  have HN := Lib.hid (And.intro hmax hn)
  have HNM := Lib.hid hnm
  clear h hmax hn hnm
  go_enter Tryd.func22, Tryd.ntmps22
  go_wp2
  go_loopw [3, 4] (fun s u wr => ∃ (i c' : Nat) (A' : Option Addr) (L : List Ent), u = .int .i64 (i : Int) ∧ s = .slice A' i c' ∧ Hid (i ≤ n) ∧ Hid (L.length = i) ∧ Hid (∀ e ∈ L, e.nm.size ≤ 4294967296) ∧ Hid (wr.ownsRow w.heap.size 42 5 (.slice A' i c') i (L.flatMap ecs)) ∧ Hid (Below w.heap.size w wr)) (fun _ u _ => n - (intOf u).toNat)
  case atStart => exact ⟨0, 0, none, [], rfl, rfl, Lib.hid (Nat.zero_le _), Lib.hid rfl, Lib.hid (fun e he => by (cases he)), Lib.hid (World.ownsRow_nil _ _ _ _), Lib.hid (Below.refl _ _)⟩
  case round =>
    obtain ⟨i, c', A', L, rfl, rfl, HIL, HLL, HLN, HO, HB⟩ := hrel
    rename World => wr
    by_cases hi : i < n
    · have hii : (i : Int) < (n : Int) := by omega
      have hiw : IntKind.i64.wrap ((i : Int) + 1) = (i : Int) + 1 := by rw [IntKind.wrap_i64]; have := HN.out; omega
      have hix : i < X.length := by have := HN.out; omega
      obtain ⟨ga, oa, rfl, hc⟩ := H.out.at_ hix
      obtain ⟨y, hy⟩ : ∃ y, X[i] = y := ⟨_, rfl⟩
      rw [hy] at hc
      have HYN := Lib.hid (p := y.nm.size ≤ 4294967296) (HNM.out y (by rw [← hy]; exact List.getElem_mem hix))
      have HRY := Lib.hid (p := ∀ W, Below w.heap.size w W → W.rangeAt ga (oa + i * 5) (ecs y)) (fun W hb j u hu => (hb.cell (p := ⟨ga, oa + i * 5 + j, none⟩) (World.block_lt_of_cell? w _ (hc j u hu))).trans (hc j u hu))
      have HWI := Lib.hid (rwith_any y A' i c' L (by have := HN.out; omega) wr (Lies.own (by decide) ecs_len HO.out) HLL.out HLN.out HYN.out)
      obtain ⟨R, hR⟩ : ∃ R, L.filter (fun e : Ent => !(e.nm.toList == y.nm.toList)) = R := ⟨_, rfl⟩
      have HRN := Lib.hid (p := R.length ≤ i ∧ ∀ e ∈ R, e.nm.size ≤ 4294967296) ⟨by rw [← hR]; exact Nat.le_trans (List.length_filter_le _ _) (Nat.le_of_eq HLL.out), fun e he => HLN.out e (by rw [← hR] at he; exact (List.mem_filter.1 he).1)⟩
      rw [hR] at HWI
      unfold RWithP at HWI
      obtain ⟨mm, hmm⟩ : ∃ q, R.length + 1 = q := ⟨_, rfl⟩
      rw [hmm] at HWI
      have HMM := Lib.hid hmm
      have HI := Lib.hid hi
      clear hc hy hix hi hR hmm
      go_upto_region 6 with (first
        | (refine wpList_load_mid rfl 42 (.tmp 15) rfl ga (oa + i * 5) rfl (ecs y) _ (HRY.out _ HB.out) Tryd.underlying42 rfl (info_ent y) ?_)
        | (go_at_call 41; refine HWI.out.mono ?_; rintro e w4 ⟨A4, c4, z, rfl, ho, hz, _, _, hb⟩
           have HO4 := Lib.hid (own_lower ho HB.out.size)
           have HZ4 := Lib.hid hz
           have HB4 := Lib.hid (below_nxt hb HB.out)
           clear ho hz hb))
      by_cases he : mm = i + 1
      · have hmn : ((mm : Int) != (i : Int) + 1) = false := by rw [bne_eq_false_iff_eq]; omega
        have himm : (i : Int) < (mm : Int) := by omega
        have HLM := Lib.hid (p := (R.take z ++ y :: R.drop z).length = mm) (by rw [with_len' HZ4.out]; exact HMM.out)
        have HL4 := Lib.hid (p := Lies ecs 5 w4 A4 (R.take z ++ y :: R.drop z)) (Lies.own (by decide) ecs_len HO4.out)
        have hix2 : i < (R.take z ++ y :: R.drop z).length := by rw [HLM.out]; omega
        obtain ⟨gm, om, rfl, hcm⟩ := HL4.out.at_ hix2
        obtain ⟨u, hu⟩ : ∃ u, (R.take z ++ y :: R.drop z)[i] = u := ⟨_, rfl⟩
        rw [hu] at hcm
        have HRU := Lib.hid (p := w4.rangeAt gm (om + i * 5) (ecs u)) (fun j v hv => hcm j v hv)
        have HSQ := Lib.hid (p := ∀ W, Below w4.heap.size w4 W → W.rangeAt gm (om + i * 5) (ecs u) ∧ W.rangeAt ga (oa + i * 5) (ecs y)) (fun W hb => ⟨fun j v hv => (hb.cell (p := ⟨gm, om + i * 5 + j, none⟩) (World.block_lt_of_cell? w4 _ (HRU.out j v hv))).trans (HRU.out j v hv), HRY.out _ (below_nxt hb HB4.out)⟩)
        obtain ⟨ne, hne⟩ : ∃ b, (!(eqE u y)) = b := ⟨_, rfl⟩
        have HNE := Lib.hid hne
        have HE := Lib.hid he
        clear hcm hu hne he hix2
        cases ne
        · skip
          refine wp_region_held_drew (S := fun W => W.rangeAt gm (om + i * 5) (ecs u) ∧ W.rangeAt ga (oa + i * 5) (ecs y)) (by kernel_rfl) (HSQ.out _ (below_drw w4)) (fun hHeld => ?_)
          refine wpAnyH_take (i := 0) (oi := ⟨some 18, .move (.tmp 5), _, _, _, _⟩) (v := .slice (some ⟨gm, om, none⟩) mm c4) rfl (by kernel_rfl) (by kernel_rfl) (by kernel_rfl) (fun _ _ _ h => h) (.inl ⟨by rfl, fun w hSw => by go_simp⟩) (by assumption) ?_
          simp only [Act.put, List.setIfInBounds_toArray, List.set_cons_zero, List.set_cons_succ]
          refine wpAnyH_take (i := 1) (oi := ⟨some 19, .call ⟨.builtin .len, #[.tmp 18], #[22]⟩, _, _, _, _⟩) (v := .int .i64 (mm : Int)) rfl (by kernel_rfl) (by kernel_rfl) (by kernel_rfl) (fun _ _ _ h => h) (.inl ⟨by rfl, fun w hSw => by go_simp⟩) (by assumption) ?_
          simp only [Act.put, List.setIfInBounds_toArray, List.set_cons_zero, List.set_cons_succ]
          refine wpAnyH_take (i := 2) (oi := ⟨some 20, .move (.tmp 4), _, _, _, _⟩) (v := .int .i64 (i : Int)) rfl (by kernel_rfl) (by kernel_rfl) (by kernel_rfl) (fun _ _ _ h => h) (.inl ⟨by rfl, fun w hSw => by go_simp⟩) (by assumption) ?_
          simp only [Act.put, List.setIfInBounds_toArray, List.set_cons_zero, List.set_cons_succ]
          refine wpAnyH_take (i := 3) (oi := ⟨some 21, .binOp .add 3 (.tmp 20) (.const (.int .i64 1)) 3, _, _, _, _⟩) (v := .int .i64 ((i : Int) + 1)) rfl (by kernel_rfl) (by kernel_rfl) (by kernel_rfl) (fun _ _ _ h => h) (.inl ⟨by rfl, fun w hSw => by go_simp⟩) (by assumption) ?_
          simp only [Act.put, List.setIfInBounds_toArray, List.set_cons_zero, List.set_cons_succ]
          refine wpAnyH_take (i := 4) (oi := ⟨some 22, .binOp .neq 3 (.tmp 19) (.tmp 21) 3, _, _, _, _⟩) (v := .bool false) rfl (by kernel_rfl) (by kernel_rfl) (by kernel_rfl) (fun _ _ _ h => h) (.inl ⟨by rfl, fun w hSw => by go_simp⟩) (by assumption) ?_
          simp only [Act.put, List.setIfInBounds_toArray, List.set_cons_zero, List.set_cons_succ]
          refine wpAnyH_take (i := 5) (oi := ⟨some 23, .move (.tmp 22), _, _, _, _⟩) (v := .bool false) rfl (by kernel_rfl) (by kernel_rfl) (by kernel_rfl) (fun _ _ _ h => h) (.inl ⟨by rfl, fun w hSw => by go_simp⟩) (by assumption) ?_
          simp only [Act.put, List.setIfInBounds_toArray, List.set_cons_zero, List.set_cons_succ]
          refine wpAnyH_take (i := 6) (oi := ⟨some 24, .move (.tmp 5), _, _, _, _⟩) (v := .slice (some ⟨gm, om, none⟩) mm c4) rfl (by kernel_rfl) (by kernel_rfl) (by kernel_rfl) (fun _ _ _ h => h) (.inl ⟨by rfl, fun w hSw => by go_simp⟩) (by assumption) ?_
          simp only [Act.put, List.setIfInBounds_toArray, List.set_cons_zero, List.set_cons_succ]
          refine wpAnyH_take (i := 7) (oi := ⟨some 25, .move (.tmp 4), _, _, _, _⟩) (v := .int .i64 (i : Int)) rfl (by kernel_rfl) (by kernel_rfl) (by kernel_rfl) (fun _ _ _ h => h) (.inl ⟨by rfl, fun w hSw => by go_simp⟩) (by assumption) ?_
          simp only [Act.put, List.setIfInBounds_toArray, List.set_cons_zero, List.set_cons_succ]
          refine wpAnyH_take (i := 8) (oi := ⟨some 26, .indexAddr 22 (.tmp 24) (.tmp 25), _, _, _, _⟩) (v := .pointer (some ⟨gm, om + i * 5, none⟩)) rfl (by kernel_rfl) (by kernel_rfl) (by kernel_rfl) (fun _ _ _ h => h) (.inl ⟨by rfl, fun w hSw => by go_simp⟩) (by assumption) ?_
          simp only [Act.put, List.setIfInBounds_toArray, List.set_cons_zero, List.set_cons_succ]
          refine wpAnyH_take (i := 9) (oi := ⟨some 27, .load 42 (.tmp 26), _, _, _, _⟩) (v := .agg (ecs u).toArray) rfl (by kernel_rfl) (by kernel_rfl) (by kernel_rfl) (fun _ _ _ h => h) (yieldsIf_load_mid (by rfl) 42 (.tmp 26) rfl gm (om + i * 5) rfl (ecs u) _ (fun w hSw => hSw.1) Tryd.underlying42 rfl (info_ent u)) (by assumption) ?_
          simp only [Act.put, List.setIfInBounds_toArray, List.set_cons_zero, List.set_cons_succ]
          refine wpAnyH_take (i := 10) (oi := ⟨some 28, .move (.tmp 0), _, _, _, _⟩) (v := .slice (some ⟨ga, oa, none⟩) n c) rfl (by kernel_rfl) (by kernel_rfl) (by kernel_rfl) (fun _ _ _ h => h) (.inl ⟨by rfl, fun w hSw => by go_simp⟩) (by assumption) ?_
          simp only [Act.put, List.setIfInBounds_toArray, List.set_cons_zero, List.set_cons_succ]
          refine wpAnyH_take (i := 11) (oi := ⟨some 29, .move (.tmp 4), _, _, _, _⟩) (v := .int .i64 (i : Int)) rfl (by kernel_rfl) (by kernel_rfl) (by kernel_rfl) (fun _ _ _ h => h) (.inl ⟨by rfl, fun w hSw => by go_simp⟩) (by assumption) ?_
          simp only [Act.put, List.setIfInBounds_toArray, List.set_cons_zero, List.set_cons_succ]
          refine wpAnyH_take (i := 12) (oi := ⟨some 30, .indexAddr 22 (.tmp 28) (.tmp 29), _, _, _, _⟩) (v := .pointer (some ⟨ga, oa + i * 5, none⟩)) rfl (by kernel_rfl) (by kernel_rfl) (by kernel_rfl) (fun _ _ _ h => h) (.inl ⟨by rfl, fun w hSw => by go_simp⟩) (by assumption) ?_
          simp only [Act.put, List.setIfInBounds_toArray, List.set_cons_zero, List.set_cons_succ]
          refine wpAnyH_take (i := 13) (oi := ⟨some 31, .load 42 (.tmp 30), _, _, _, _⟩) (v := .agg (ecs y).toArray) rfl (by kernel_rfl) (by kernel_rfl) (by kernel_rfl) (fun _ _ _ h => h) (yieldsIf_load_mid (by rfl) 42 (.tmp 30) rfl ga (oa + i * 5) rfl (ecs y) _ (fun w hSw => hSw.2) Tryd.underlying42 rfl (info_ent y)) (by assumption) ?_
          simp only [Act.put, List.setIfInBounds_toArray, List.set_cons_zero, List.set_cons_succ]
          refine wpAnyH_take (i := 14) (oi := ⟨some 32, .binOp .neq 42 (.tmp 27) (.tmp 31) 42, _, _, _, _⟩) (v := .bool false) rfl (by kernel_rfl) (by kernel_rfl) (by kernel_rfl) (fun _ _ _ h => h) (.inl ⟨by rfl, fun w hSw => neq_is w _ _ _ _ rfl u y rfl rfl _ HNE.out⟩) (by assumption) ?_
          simp only [Act.put, List.setIfInBounds_toArray, List.set_cons_zero, List.set_cons_succ]
          refine wpAnyH_take (i := 15) (oi := ⟨some 33, .pick (.tmp 23) (.const (.bool true)) (.tmp 32), _, _, _, _⟩) (v := .bool false) rfl (by kernel_rfl) (by kernel_rfl) (by kernel_rfl) (fun _ _ _ h => h) (.inl ⟨by rfl, fun w hSw => by go_simp⟩) (by assumption) ?_
          simp only [Act.put, List.setIfInBounds_toArray, List.set_cons_zero, List.set_cons_succ]
          refine wpAnyH_done (by kernel_rfl) ?_ _
          go_wp2_with fail
          go_roundw
          case rel => exact ⟨i + 1, c4, _, R.take z ++ y :: R.drop z, by go_num, by rw [← HE.out], Lib.hid HI.out, Lib.hid (by rw [HLM.out]; exact HE.out), Lib.hid (ins_mem HRN.out.2 HYN.out), Lib.hid (by rw [← HE.out]; exact own_kept HO4.out (below_drw w4)), Lib.hid (below_nxt (below_drw w4) HB4.out)⟩
          case measure => have := HI.out; simp [intOf]; omega
        · skip
          refine wp_region_held_drew (S := fun W => W.rangeAt gm (om + i * 5) (ecs u) ∧ W.rangeAt ga (oa + i * 5) (ecs y)) (by kernel_rfl) (HSQ.out _ (below_drw w4)) (fun hHeld => ?_)
          refine wpAnyH_take (i := 0) (oi := ⟨some 18, .move (.tmp 5), _, _, _, _⟩) (v := .slice (some ⟨gm, om, none⟩) mm c4) rfl (by kernel_rfl) (by kernel_rfl) (by kernel_rfl) (fun _ _ _ h => h) (.inl ⟨by rfl, fun w hSw => by go_simp⟩) (by assumption) ?_
          simp only [Act.put, List.setIfInBounds_toArray, List.set_cons_zero, List.set_cons_succ]
          refine wpAnyH_take (i := 1) (oi := ⟨some 19, .call ⟨.builtin .len, #[.tmp 18], #[22]⟩, _, _, _, _⟩) (v := .int .i64 (mm : Int)) rfl (by kernel_rfl) (by kernel_rfl) (by kernel_rfl) (fun _ _ _ h => h) (.inl ⟨by rfl, fun w hSw => by go_simp⟩) (by assumption) ?_
          simp only [Act.put, List.setIfInBounds_toArray, List.set_cons_zero, List.set_cons_succ]
          refine wpAnyH_take (i := 2) (oi := ⟨some 20, .move (.tmp 4), _, _, _, _⟩) (v := .int .i64 (i : Int)) rfl (by kernel_rfl) (by kernel_rfl) (by kernel_rfl) (fun _ _ _ h => h) (.inl ⟨by rfl, fun w hSw => by go_simp⟩) (by assumption) ?_
          simp only [Act.put, List.setIfInBounds_toArray, List.set_cons_zero, List.set_cons_succ]
          refine wpAnyH_take (i := 3) (oi := ⟨some 21, .binOp .add 3 (.tmp 20) (.const (.int .i64 1)) 3, _, _, _, _⟩) (v := .int .i64 ((i : Int) + 1)) rfl (by kernel_rfl) (by kernel_rfl) (by kernel_rfl) (fun _ _ _ h => h) (.inl ⟨by rfl, fun w hSw => by go_simp⟩) (by assumption) ?_
          simp only [Act.put, List.setIfInBounds_toArray, List.set_cons_zero, List.set_cons_succ]
          refine wpAnyH_take (i := 4) (oi := ⟨some 22, .binOp .neq 3 (.tmp 19) (.tmp 21) 3, _, _, _, _⟩) (v := .bool false) rfl (by kernel_rfl) (by kernel_rfl) (by kernel_rfl) (fun _ _ _ h => h) (.inl ⟨by rfl, fun w hSw => by go_simp⟩) (by assumption) ?_
          simp only [Act.put, List.setIfInBounds_toArray, List.set_cons_zero, List.set_cons_succ]
          refine wpAnyH_take (i := 5) (oi := ⟨some 23, .move (.tmp 22), _, _, _, _⟩) (v := .bool false) rfl (by kernel_rfl) (by kernel_rfl) (by kernel_rfl) (fun _ _ _ h => h) (.inl ⟨by rfl, fun w hSw => by go_simp⟩) (by assumption) ?_
          simp only [Act.put, List.setIfInBounds_toArray, List.set_cons_zero, List.set_cons_succ]
          refine wpAnyH_take (i := 6) (oi := ⟨some 24, .move (.tmp 5), _, _, _, _⟩) (v := .slice (some ⟨gm, om, none⟩) mm c4) rfl (by kernel_rfl) (by kernel_rfl) (by kernel_rfl) (fun _ _ _ h => h) (.inl ⟨by rfl, fun w hSw => by go_simp⟩) (by assumption) ?_
          simp only [Act.put, List.setIfInBounds_toArray, List.set_cons_zero, List.set_cons_succ]
          refine wpAnyH_take (i := 7) (oi := ⟨some 25, .move (.tmp 4), _, _, _, _⟩) (v := .int .i64 (i : Int)) rfl (by kernel_rfl) (by kernel_rfl) (by kernel_rfl) (fun _ _ _ h => h) (.inl ⟨by rfl, fun w hSw => by go_simp⟩) (by assumption) ?_
          simp only [Act.put, List.setIfInBounds_toArray, List.set_cons_zero, List.set_cons_succ]
          refine wpAnyH_take (i := 8) (oi := ⟨some 26, .indexAddr 22 (.tmp 24) (.tmp 25), _, _, _, _⟩) (v := .pointer (some ⟨gm, om + i * 5, none⟩)) rfl (by kernel_rfl) (by kernel_rfl) (by kernel_rfl) (fun _ _ _ h => h) (.inl ⟨by rfl, fun w hSw => by go_simp⟩) (by assumption) ?_
          simp only [Act.put, List.setIfInBounds_toArray, List.set_cons_zero, List.set_cons_succ]
          refine wpAnyH_take (i := 9) (oi := ⟨some 27, .load 42 (.tmp 26), _, _, _, _⟩) (v := .agg (ecs u).toArray) rfl (by kernel_rfl) (by kernel_rfl) (by kernel_rfl) (fun _ _ _ h => h) (yieldsIf_load_mid (by rfl) 42 (.tmp 26) rfl gm (om + i * 5) rfl (ecs u) _ (fun w hSw => hSw.1) Tryd.underlying42 rfl (info_ent u)) (by assumption) ?_
          simp only [Act.put, List.setIfInBounds_toArray, List.set_cons_zero, List.set_cons_succ]
          refine wpAnyH_take (i := 10) (oi := ⟨some 28, .move (.tmp 0), _, _, _, _⟩) (v := .slice (some ⟨ga, oa, none⟩) n c) rfl (by kernel_rfl) (by kernel_rfl) (by kernel_rfl) (fun _ _ _ h => h) (.inl ⟨by rfl, fun w hSw => by go_simp⟩) (by assumption) ?_
          simp only [Act.put, List.setIfInBounds_toArray, List.set_cons_zero, List.set_cons_succ]
          refine wpAnyH_take (i := 11) (oi := ⟨some 29, .move (.tmp 4), _, _, _, _⟩) (v := .int .i64 (i : Int)) rfl (by kernel_rfl) (by kernel_rfl) (by kernel_rfl) (fun _ _ _ h => h) (.inl ⟨by rfl, fun w hSw => by go_simp⟩) (by assumption) ?_
          simp only [Act.put, List.setIfInBounds_toArray, List.set_cons_zero, List.set_cons_succ]
          refine wpAnyH_take (i := 12) (oi := ⟨some 30, .indexAddr 22 (.tmp 28) (.tmp 29), _, _, _, _⟩) (v := .pointer (some ⟨ga, oa + i * 5, none⟩)) rfl (by kernel_rfl) (by kernel_rfl) (by kernel_rfl) (fun _ _ _ h => h) (.inl ⟨by rfl, fun w hSw => by go_simp⟩) (by assumption) ?_
          simp only [Act.put, List.setIfInBounds_toArray, List.set_cons_zero, List.set_cons_succ]
          refine wpAnyH_take (i := 13) (oi := ⟨some 31, .load 42 (.tmp 30), _, _, _, _⟩) (v := .agg (ecs y).toArray) rfl (by kernel_rfl) (by kernel_rfl) (by kernel_rfl) (fun _ _ _ h => h) (yieldsIf_load_mid (by rfl) 42 (.tmp 30) rfl ga (oa + i * 5) rfl (ecs y) _ (fun w hSw => hSw.2) Tryd.underlying42 rfl (info_ent y)) (by assumption) ?_
          simp only [Act.put, List.setIfInBounds_toArray, List.set_cons_zero, List.set_cons_succ]
          refine wpAnyH_take (i := 14) (oi := ⟨some 32, .binOp .neq 42 (.tmp 27) (.tmp 31) 42, _, _, _, _⟩) (v := .bool true) rfl (by kernel_rfl) (by kernel_rfl) (by kernel_rfl) (fun _ _ _ h => h) (.inl ⟨by rfl, fun w hSw => neq_is w _ _ _ _ rfl u y rfl rfl _ HNE.out⟩) (by assumption) ?_
          simp only [Act.put, List.setIfInBounds_toArray, List.set_cons_zero, List.set_cons_succ]
          refine wpAnyH_take (i := 15) (oi := ⟨some 33, .pick (.tmp 23) (.const (.bool true)) (.tmp 32), _, _, _, _⟩) (v := .bool true) rfl (by kernel_rfl) (by kernel_rfl) (by kernel_rfl) (fun _ _ _ h => h) (.inl ⟨by rfl, fun w hSw => by go_simp⟩) (by assumption) ?_
          simp only [Act.put, List.setIfInBounds_toArray, List.set_cons_zero, List.set_cons_succ]
          refine wpAnyH_done (by kernel_rfl) ?_ _
          go_wp2_with fail
          go_ret
          exact ⟨⟨_, rfl⟩, below_nxt (below_drw w4) HB4.out⟩
      · have hmn : ((mm : Int) != (i : Int) + 1) = true := by rw [bne_iff_ne]; omega
        clear he
        refine wp_region_held_drew (S := fun _ => True) (by kernel_rfl) trivial (fun hHeld => ?_)
        refine wpAnyH_take (i := 0) (oi := ⟨some 18, .move (.tmp 5), _, _, _, _⟩) (v := .slice A4 mm c4) rfl (by kernel_rfl) (by kernel_rfl) (by kernel_rfl) (fun _ _ _ h => h) (.inl ⟨by rfl, fun w hSw => by go_simp⟩) (by assumption) ?_
        simp only [Act.put, List.setIfInBounds_toArray, List.set_cons_zero, List.set_cons_succ]
        refine wpAnyH_take (i := 1) (oi := ⟨some 19, .call ⟨.builtin .len, #[.tmp 18], #[22]⟩, _, _, _, _⟩) (v := .int .i64 (mm : Int)) rfl (by kernel_rfl) (by kernel_rfl) (by kernel_rfl) (fun _ _ _ h => h) (.inl ⟨by rfl, fun w hSw => by go_simp⟩) (by assumption) ?_
        simp only [Act.put, List.setIfInBounds_toArray, List.set_cons_zero, List.set_cons_succ]
        refine wpAnyH_take (i := 2) (oi := ⟨some 20, .move (.tmp 4), _, _, _, _⟩) (v := .int .i64 (i : Int)) rfl (by kernel_rfl) (by kernel_rfl) (by kernel_rfl) (fun _ _ _ h => h) (.inl ⟨by rfl, fun w hSw => by go_simp⟩) (by assumption) ?_
        simp only [Act.put, List.setIfInBounds_toArray, List.set_cons_zero, List.set_cons_succ]
        refine wpAnyH_take (i := 3) (oi := ⟨some 21, .binOp .add 3 (.tmp 20) (.const (.int .i64 1)) 3, _, _, _, _⟩) (v := .int .i64 ((i : Int) + 1)) rfl (by kernel_rfl) (by kernel_rfl) (by kernel_rfl) (fun _ _ _ h => h) (.inl ⟨by rfl, fun w hSw => by go_simp⟩) (by assumption) ?_
        simp only [Act.put, List.setIfInBounds_toArray, List.set_cons_zero, List.set_cons_succ]
        refine wpAnyH_take (i := 4) (oi := ⟨some 22, .binOp .neq 3 (.tmp 19) (.tmp 21) 3, _, _, _, _⟩) (v := .bool true) rfl (by kernel_rfl) (by kernel_rfl) (by kernel_rfl) (fun _ _ _ h => h) (.inl ⟨by rfl, fun w hSw => by go_simp⟩) (by assumption) ?_
        simp only [Act.put, List.setIfInBounds_toArray, List.set_cons_zero, List.set_cons_succ]
        refine wpAnyH_take (i := 5) (oi := ⟨some 23, .move (.tmp 22), _, _, _, _⟩) (v := .bool true) rfl (by kernel_rfl) (by kernel_rfl) (by kernel_rfl) (fun _ _ _ h => h) (.inl ⟨by rfl, fun w hSw => by go_simp⟩) (by assumption) ?_
        simp only [Act.put, List.setIfInBounds_toArray, List.set_cons_zero, List.set_cons_succ]
        refine wpAnyH_take (i := 6) (oi := ⟨some 24, .move (.tmp 5), _, _, _, _⟩) (v := undef) rfl (by kernel_rfl) (by kernel_rfl) (by kernel_rfl) (fun _ _ _ h => h) (.inr ⟨by rfl, rfl⟩) (by assumption) ?_
        simp only [Act.put, List.setIfInBounds_toArray, List.set_cons_zero, List.set_cons_succ]
        refine wpAnyH_take (i := 7) (oi := ⟨some 25, .move (.tmp 4), _, _, _, _⟩) (v := undef) rfl (by kernel_rfl) (by kernel_rfl) (by kernel_rfl) (fun _ _ _ h => h) (.inr ⟨by rfl, rfl⟩) (by assumption) ?_
        simp only [Act.put, List.setIfInBounds_toArray, List.set_cons_zero, List.set_cons_succ]
        refine wpAnyH_take (i := 8) (oi := ⟨some 26, .indexAddr 22 (.tmp 24) (.tmp 25), _, _, _, _⟩) (v := undef) rfl (by kernel_rfl) (by kernel_rfl) (by kernel_rfl) (fun _ _ _ h => h) (.inr ⟨by rfl, rfl⟩) (by assumption) ?_
        simp only [Act.put, List.setIfInBounds_toArray, List.set_cons_zero, List.set_cons_succ]
        refine wpAnyH_take (i := 9) (oi := ⟨some 27, .load 42 (.tmp 26), _, _, _, _⟩) (v := undef) rfl (by kernel_rfl) (by kernel_rfl) (by kernel_rfl) (fun _ _ _ h => h) (.inr ⟨by rfl, rfl⟩) (by assumption) ?_
        simp only [Act.put, List.setIfInBounds_toArray, List.set_cons_zero, List.set_cons_succ]
        refine wpAnyH_take (i := 10) (oi := ⟨some 28, .move (.tmp 0), _, _, _, _⟩) (v := undef) rfl (by kernel_rfl) (by kernel_rfl) (by kernel_rfl) (fun _ _ _ h => h) (.inr ⟨by rfl, rfl⟩) (by assumption) ?_
        simp only [Act.put, List.setIfInBounds_toArray, List.set_cons_zero, List.set_cons_succ]
        refine wpAnyH_take (i := 11) (oi := ⟨some 29, .move (.tmp 4), _, _, _, _⟩) (v := undef) rfl (by kernel_rfl) (by kernel_rfl) (by kernel_rfl) (fun _ _ _ h => h) (.inr ⟨by rfl, rfl⟩) (by assumption) ?_
        simp only [Act.put, List.setIfInBounds_toArray, List.set_cons_zero, List.set_cons_succ]
        refine wpAnyH_take (i := 12) (oi := ⟨some 30, .indexAddr 22 (.tmp 28) (.tmp 29), _, _, _, _⟩) (v := undef) rfl (by kernel_rfl) (by kernel_rfl) (by kernel_rfl) (fun _ _ _ h => h) (.inr ⟨by rfl, rfl⟩) (by assumption) ?_
        simp only [Act.put, List.setIfInBounds_toArray, List.set_cons_zero, List.set_cons_succ]
        refine wpAnyH_take (i := 13) (oi := ⟨some 31, .load 42 (.tmp 30), _, _, _, _⟩) (v := undef) rfl (by kernel_rfl) (by kernel_rfl) (by kernel_rfl) (fun _ _ _ h => h) (.inr ⟨by rfl, rfl⟩) (by assumption) ?_
        simp only [Act.put, List.setIfInBounds_toArray, List.set_cons_zero, List.set_cons_succ]
        refine wpAnyH_take (i := 14) (oi := ⟨some 32, .binOp .neq 42 (.tmp 27) (.tmp 31) 42, _, _, _, _⟩) (v := undef) rfl (by kernel_rfl) (by kernel_rfl) (by kernel_rfl) (fun _ _ _ h => h) (.inr ⟨by rfl, rfl⟩) (by assumption) ?_
        simp only [Act.put, List.setIfInBounds_toArray, List.set_cons_zero, List.set_cons_succ]
        refine wpAnyH_take (i := 15) (oi := ⟨some 33, .pick (.tmp 23) (.const (.bool true)) (.tmp 32), _, _, _, _⟩) (v := .bool true) rfl (by kernel_rfl) (by kernel_rfl) (by kernel_rfl) (fun _ _ _ h => h) (.inl ⟨by rfl, fun w hSw => by go_simp⟩) (by assumption) ?_
        simp only [Act.put, List.setIfInBounds_toArray, List.set_cons_zero, List.set_cons_succ]
        refine wpAnyH_done (by kernel_rfl) ?_ _
        go_wp2_with fail
        go_ret
        exact ⟨⟨_, rfl⟩, below_nxt (below_drw w4) HB4.out⟩
    · have hii : ¬ (i : Int) < (n : Int) := by omega
      clear hi
      go_wp2
      go_ret
      exact ⟨⟨_, rfl⟩, HB.out⟩
end Go.Proofs.YtijffkklhgnknaaDoor
