/- What a slot's block holds where only so many of its bytes stay. Conditions: the desk lies there. -/
import Derived.Test.YtfbfeplegdpemaaGreatMgNc
import Derived.Lib.SliceRun
set_option linter.unusedVariables false
set_option maxRecDepth 20000
namespace Go.Proofs.YtfbfeplegdpemaaGreat
open Go.RowKit

section
variable {P : Program} {ops : Array Oper} {rest : List Oper} {o : Oper} {a : Act} {w : World} {Q : Exit → Act → World → Prop}
theorem run_unlike_op (w : World) {a : Act} (o : Oper) (t t' : TypeId) (x y : Operand) (ho : o.op = .binOp .neq t x y t') (xs ys : Array Value) (hx : a.eval x = .agg xs) (hy : a.eval y = .agg ys) (hg : P.eqGuardType P.depth t = false) (b : Bool)
    (he : ∀ w, (Op.equalIn 10000 t (.agg xs) (.agg ys)).run P w = .ok b w) : (execOp a.eval o).run P w = .ok (.value (.bool (!b))) w := by
  unfold execOp
  simp only [ho, hx, hy, Sem.run_bind, run_eqGuard_agg w _ t x y xs ys hg, run_neq_struct, he, Result.andThen_ok]
  rfl
/-- A part of a row, cleared. -/
theorem step_clear_part (hgd : o.guard = none) (x : Operand) (t e : TypeId) (ho : o.op = .call { callee := .builtin .clear, args := #[x], argTypes := #[t] }) (hu : P.underlying t = some (.slice e)) (z : Value) (hv : ∀ w, (zeroValue e).run P w = .ok z w) (hz : z.cells = #[z]) (h1 : z.oneCell' = true)
    (g off n c : Nat) (hx : a.eval x = .slice (some ⟨g, off, none⟩) n c) (hn : 0 < n) (tt : TypeId) (A old B : List Value) (hr : Row w g tt (A ++ (old ++ B))) (ha : A.length = off) (hl : old.length = n)
    (h : ∀ w', Row w' g tt (A ++ (List.replicate n z ++ B)) → w.grownBy w' (some g) → wpList P ops Q rest (a.put o.dst (.tuple #[])) w') : wpList P ops Q (o :: rest) a w := by
  refine wpList_plain hgd fun K hK => ?_
  have ht := hr.is_there off n (by subst ha; simp; omega)
  have hrun := Lib.run_clear_slice (P := P) w t e o.type z hu hv hz h1 g off n c hn (fun j hj => (ht j hj).1) (fun j hj => (ht j hj).2)
  unfold Oper.wp execOp
  simp only [ho, resolve, invoke, builtin, Sem.run_bind, Sem.run_pure, Result.andThen_ok, List.map_toArray, List.map_cons, List.map_nil, hx, hrun]
  exact hK _ _ (h _ (row_store hr ha (by rw [hl, List.length_replicate])) (grown_sets g _ off w))
end
def cutF (f : Nat → UInt8) (s j : Nat) : UInt8 := if j < s then f j else 0
theorem brr_cut (f : Nat → UInt8) (s : Nat) (h : s ≤ 256) : brr s f ++ (List.replicate (256 - s) (Value.int .u8 0) ++ []) = brr 256 (cutF f s) := by
  apply List.ext_getElem?
  intro j
  rw [List.append_nil]
  by_cases h1 : j < s
  · rw [List.getElem?_append_left (by rw [brr_len]; exact h1), brr_get _ h1, brr_get _ (by omega)]
    unfold cutF
    rw [if_pos h1]
  · rw [List.getElem?_append_right (by rw [brr_len]; omega), brr_len, List.getElem?_replicate]
    by_cases h2 : j < 256
    · rw [if_pos (by omega), brr_get _ h2]
      unfold cutF
      rw [if_neg h1]
      rfl
    · rw [if_neg (by omega), List.getElem?_eq_none (by rw [brr_len]; omega)]
theorem brr_two (f : Nat → UInt8) (s : Nat) (h : s ≤ 256) : brr 256 f = brr s f ++ (brr (256 - s) (fun j => f (s + j)) ++ []) := by
  apply List.ext_getElem?
  intro j
  rw [List.append_nil]
  by_cases h1 : j < s
  · rw [List.getElem?_append_left (by rw [brr_len]; exact h1), brr_get _ h1, brr_get _ (by omega)]
  · rw [List.getElem?_append_right (by rw [brr_len]; omega), brr_len]
    by_cases h2 : j < 256
    · rw [brr_get _ h2, brr_get _ (by omega), show s + (j - s) = j by omega]
    · rw [List.getElem?_eq_none (by rw [brr_len]; omega), List.getElem?_eq_none (by rw [brr_len]; omega)]
theorem eq_brr (d n : Nat) (t : TypeId) (hu : Tryz.prog.underlying t = some (.array n 5)) (f g : Nat → UInt8) (w : World) : (Op.equalIn (d + 2) t (.agg (brr n f).toArray) (.agg (brr n g).toArray)).run Tryz.prog w = .ok ((List.range n).all fun j => ((f j).toNat : Int) == ((g j).toNat : Int)) w :=
  run_equalIn_parts w (d + 1) t 5 n 1 hu info_u8s _ _ (fun j => .int .u8 ((f j).toNat : Int)) (fun j => .int .u8 ((g j).toNat : Int)) (fun j => ((f j).toNat : Int) == ((g j).toNat : Int))
    (fun j hj w => by
      have h := brr_get f hj
      simp [part, isAgg, run_underlying Tryz.underlying5, h, B, bv])
    (fun j hj w => by
      have h := brr_get g hj
      simp [part, isAgg, run_underlying Tryz.underlying5, h, B, bv])
    (fun j hj w => run_equalIn_int (P := Tryz.prog) w d _ .u8 .u8 _ _ Tryz.underlying5)
theorem zero_u8 (w : World) : (zeroValue 5).run Tryz.prog w = .ok (.int .u8 0) w := by kernel_rfl
theorem block_guard : Tryz.prog.eqGuardType Tryz.prog.depth 105 = false := by kernel_rfl
/-- Whether what is left is as it was. -/
def sameF (f : Nat → UInt8) (s : Nat) : Bool := (List.range 256).all fun j => ((cutF f s j).toNat : Int) == ((f j).toNat : Int)
theorem sameF_iff (f : Nat → UInt8) (s : Nat) : sameF f s = true ↔ ∀ j, j < 256 → cutF f s j = f j := by
  unfold sameF
  rw [List.all_eq_true]
  constructor
  · intro h j hj
    have h1 := h j (List.mem_range.2 hj)
    rw [beq_iff_eq] at h1
    exact UInt8.toNat_inj.1 (by omega)
  · intro h j hj
    rw [h j (List.mem_range.1 hj)]
    simp
section
variable {b : Nat} {w w' : World} {gd gv gm gs r : Nat} {Bs : List BV} {N n : Nat} {X : DX}
set_option maxHeartbeats 4000000 in
theorem dshut (z s : Nat) (f : Nat → UInt8) (h : DK b w gd gv gm gs r Bs N n X) (hc : Cont X Bs z f) (hs : 1 ≤ s ∧ s ≤ 255) : Calls Tryz.prog 54 #[.pointer (some ⟨gd, 0, none⟩), .int .i64 (z : Int), .int .i64 (s : Int)] w (DOne b w gd gv gm gs r Bs N n X (.tuple #[.agg (brr 256 (cutF f s)).toArray, .bool (!(sameF f s))])) := by
  have i1 := Lib.hid (fun f => info_brr f)
  have hz := Lib.hid zero_block
  have H := Lib.hid h
  have HC := Lib.hid hc
  have HLT := Lib.hid h.lt
  have HLO := Lib.hid h.lo
  have HS := Lib.hid hs
  obtain ⟨sm, hsm⟩ : ∃ sm, sameF f s = sm := ⟨_, rfl⟩
  have HEQ := Lib.hid (p := ∀ w, (Op.equalIn 10000 105 (.agg (brr 256 (cutF f s)).toArray) (.agg (brr 256 f).toArray)).run Tryz.prog w = .ok sm w) (fun w => by rw [← hsm]; exact eq_brr _ 256 _ Tryz.underlying105 _ _ w)
  obtain ⟨fc, hfc⟩ : ∃ fc, cutF f s = fc := ⟨_, rfl⟩
  have HCUT := Lib.hid (p := brr s f ++ (List.replicate (256 - s) (Value.int .u8 0) ++ []) = brr 256 fc) (by rw [← hfc]; exact brr_cut f s (by omega))
  have HTWO := Lib.hid (brr_two f s (by omega))
  rw [hfc] at HEQ
  rw [hsm, hfc]
  have hs3 : (s : Int) ≤ 256 := by omega
  have hs5 : ¬ 256 = s := by omega
  clear h hc hs hsm hfc
  go_enter Tryz.func54, Tryz.ntmps54
  go_wp2_with (first
    | (refine step_alloc rfl 6 rfl 105 rfl _ hz.out ?_; intro g6 w2 hr2 hg2 hb2 hs2
       have HR62 := Lib.hid hr2
       have HB2 := Lib.hid hb2
       have HG6 := Lib.hid (p := w.heap.size ≤ g6) (Nat.le_of_eq hg2.out.symm)
       have HK2 := Lib.hid (H.out.below hb2)
       clear hr2 hg2 hb2 hs2)
    | (go_at_call 51; refine (dcontent z f HK2.out HC.out).mono ?_; rintro e w3 ⟨rfl, hk, hc⟩
       have HK3 := hk
       have HC3 := Lib.hid (p := Chg [gd] w w3) ((Chg.of (F := [gd]) HB2.out).trans hc.out (fun x hx => .inl hx))
       have HR63 := Lib.hid (hc.out.row HR62.out (by have h1 := HLT.out; have h2 := HG6.out; simp; omega))
       clear hk hc)
    | (refine step_alloc rfl 8 rfl 105 rfl _ hz.out ?_; intro g8 w4 hr2 hg2 hb2 hs2
       have HR84 := Lib.hid hr2
       have HK4 := Lib.hid (HK3.out.below hb2)
       have HC4 := Lib.hid (chg_nxt HC3.out hb2)
       have HR64 := Lib.hid (HR63.out.kept hb2)
       have HG8 := Lib.hid (p := w.heap.size ≤ g8 ∧ g6 < g8) (by rw [hg2.out]; exact ⟨HC3.out.size, HR63.out.lt⟩)
       clear hr2 hg2 hb2 hs2)
    | (refine step_store rfl 105 (.tmp 8) (.tmp 12) rfl g8 (by rfl) _ _ (brr 256 f) (by rfl) HR84.out (by rw [brr_len, brr_len]) (i1.out _) (brr_one _ _) ?_; intro w5 hr9 hg9 hs9
       have HR85 := Lib.hid hr9
       have HK5 := Lib.hid (HK4.out.other HR84.out (by decide) (by have := HLO.out; have := HG8.out; omega) (Chg.one hg9))
       have HC5 := Lib.hid (p := Chg [gd] w w5) (chg_own HC4.out HG8.out.1 (Chg.one hg9))
       have HR65 := Lib.hid (HR64.out.grown hg9 (fun e => by have := HG8.out; injection e; omega))
       clear hr9 hg9 hs9)
    | (refine step_load rfl 13 rfl 105 (.tmp 8) rfl g8 rfl (brr 256 f) _ HR85.out.all Tryz.underlying105 rfl (i1.out _) ?_)
    | (refine step_alloc rfl 9 rfl 105 rfl _ hz.out ?_; intro g9 w6 hr2 hg2 hb2 hs2
       have HR96 := Lib.hid hr2
       have HK6 := Lib.hid (HK5.out.below hb2)
       have HC6 := Lib.hid (chg_nxt HC5.out hb2)
       have HR66 := Lib.hid (HR65.out.kept hb2)
       have HR86 := Lib.hid (HR85.out.kept hb2)
       have HG9 := Lib.hid (p := w.heap.size ≤ g9 ∧ g6 < g9 ∧ g8 < g9) (by rw [hg2.out]; exact ⟨HC5.out.size, HR65.out.lt, HR85.out.lt⟩)
       clear hr2 hg2 hb2 hs2)
    | (refine step_store rfl 105 (.tmp 9) (.tmp 13) rfl g9 (by rfl) _ _ (brr 256 f) (by rfl) HR96.out (by rw [brr_len, brr_len]) (i1.out _) (brr_one _ _) ?_; intro w7 hr9 hg9 hs9
       have HR97 := Lib.hid (p := Row w7 g9 105 (brr s f ++ (brr (256 - s) (fun j => f (s + j)) ++ []))) (by rw [← HTWO.out]; exact hr9)
       have HK7 := Lib.hid (HK6.out.other HR96.out (by decide) (by have := HLO.out; have := HG9.out; omega) (Chg.one hg9))
       have HC7 := Lib.hid (p := Chg [gd] w w7) (chg_own HC6.out HG9.out.1 (Chg.one hg9))
       have HR67 := Lib.hid (HR66.out.grown hg9 (fun e => by have := HG9.out; injection e; omega))
       have HR87 := Lib.hid (HR86.out.grown hg9 (fun e => by have := HG9.out; injection e; omega))
       clear hr9 hg9 hs9)
    | (refine step_clear_part rfl (.tmp 15) _ 5 rfl Tryz.underlying22 (.int .u8 0) zero_u8 rfl rfl g9 s (256 - s) (256 - s) (by rfl) (by have := HS.out; omega) 105 (brr s f) (brr (256 - s) (fun j => f (s + j))) [] HR97.out (brr_len _ _) (brr_len _ _) ?_; intro w8 hr9 hg9
       have HR98 := Lib.hid (p := Row w8 g9 105 (brr 256 fc)) (by rw [← HCUT.out]; exact hr9)
       have HK8 := Lib.hid (HK7.out.other HR97.out (by decide) (by have := HLO.out; have := HG9.out; omega) (Chg.one hg9))
       have HC8 := Lib.hid (p := Chg [gd] w w8) (chg_own HC7.out HG9.out.1 (Chg.one hg9))
       have HR68 := Lib.hid (HR67.out.grown hg9 (fun e => by have := HG9.out; injection e; omega))
       have HR88 := Lib.hid (HR87.out.grown hg9 (fun e => by have := HG9.out; injection e; omega))
       have HS8 := Lib.hid (p := Row w8.drew g9 105 (brr 256 fc) ∧ Row w8.drew g8 105 (brr 256 f)) ⟨HR98.out.drew, HR88.out.drew⟩
       clear hr9 hg9))
  refine wp_region_held_drew (S := fun W => Row W g9 105 (brr 256 fc) ∧ Row W g8 105 (brr 256 f)) (by kernel_rfl) HS8.out (fun hHeld => ?_)
  refine wpAnyH_take (i := 0) (oi := ⟨some 16, .load 105 (.tmp 9), _, _, _, _⟩) (v := .agg (brr 256 fc).toArray) rfl (by kernel_rfl) (by kernel_rfl) (by kernel_rfl) (fun _ _ _ h => h) (yieldsIf_load_mid (by rfl) 105 (.tmp 9) rfl g9 0 rfl (brr 256 fc) _ (fun w hSw => hSw.1.all) Tryz.underlying105 rfl (i1.out _)) (by assumption) ?_
  simp only [Act.put, List.setIfInBounds_toArray, List.set_cons_zero, List.set_cons_succ]
  refine wpAnyH_take (i := 1) (oi := ⟨some 17, .load 105 (.tmp 9), _, _, _, _⟩) (v := .agg (brr 256 fc).toArray) rfl (by kernel_rfl) (by kernel_rfl) (by kernel_rfl) (fun _ _ _ h => h) (yieldsIf_load_mid (by rfl) 105 (.tmp 9) rfl g9 0 rfl (brr 256 fc) _ (fun w hSw => hSw.1.all) Tryz.underlying105 rfl (i1.out _)) (by assumption) ?_
  simp only [Act.put, List.setIfInBounds_toArray, List.set_cons_zero, List.set_cons_succ]
  refine wpAnyH_take (i := 2) (oi := ⟨some 18, .load 105 (.tmp 8), _, _, _, _⟩) (v := .agg (brr 256 f).toArray) rfl (by kernel_rfl) (by kernel_rfl) (by kernel_rfl) (fun _ _ _ h => h) (yieldsIf_load_mid (by rfl) 105 (.tmp 8) rfl g8 0 rfl (brr 256 f) _ (fun w hSw => hSw.2.all) Tryz.underlying105 rfl (i1.out _)) (by assumption) ?_
  simp only [Act.put, List.setIfInBounds_toArray, List.set_cons_zero, List.set_cons_succ]
  refine wpAnyH_take (i := 3) (oi := ⟨some 19, .binOp .neq 105 (.tmp 17) (.tmp 18) 105, _, _, _, _⟩) (v := .bool (!sm)) rfl (by kernel_rfl) (by kernel_rfl) (by kernel_rfl) (fun _ _ _ h => h) (.inl ⟨by rfl, fun w hSw => run_unlike_op w _ 105 105 (.tmp 17) (.tmp 18) rfl _ _ rfl rfl block_guard sm (fun w => HEQ.out w)⟩) (by assumption) ?_
  simp only [Act.put, List.setIfInBounds_toArray, List.set_cons_zero, List.set_cons_succ]
  refine wpAnyH_ready (rs := [4]) (by kernel_rfl) (by simp) ?_
  refine AllReadyH.cons (o := ⟨none, .store 105 (.tmp 6) (.tmp 16), _, _, _, _⟩) rfl (fun K hK => ?_) AllReadyH.nil
  refine st_store (by rfl) 105 (.tmp 6) (.tmp 16) rfl g6 (by rfl) 105 _ (brr 256 fc) (by rfl) HR68.out.drew (by rw [brr_len, brr_len]) (i1.out _) (brr_one _ _) ?_
  intro w9 hr6 hg6
  have HR69 := Lib.hid hr6
  have HK9 := Lib.hid ((HK8.out.below (below_drw _)).other HR68.out.drew (by decide) (by have := HLO.out; have := HG6.out; omega) (Chg.one hg6))
  have HC9 := Lib.hid (p := Chg [gd] w w9) (chg_own (chg_nxt HC8.out (below_drw _)) HG6.out (Chg.one hg6))
  have HS9 := Lib.hid (p := Row w9 g9 105 (brr 256 fc) ∧ Row w9 g8 105 (brr 256 f)) ⟨HS8.out.1.grown hg6 (fun e => by have := HG9.out; injection e; omega), HS8.out.2.grown hg6 (fun e => by have := HG8.out; injection e; omega)⟩
  clear hr6 hg6
  refine hK.out _ _ HS9.out (fun _hH => ?_)
  clear hK K
  refine wpAnyH_take (i := 5) (oi := ⟨some 7, .assign (.tmp 19), _, _, _, _⟩) (v := .bool (!sm)) rfl (by kernel_rfl) (by kernel_rfl) (by kernel_rfl) (fun _ _ _ h => h) (.inl ⟨by rfl, fun w hSw => by go_simp⟩) (by assumption) ?_
  simp only [Act.put, List.setIfInBounds_toArray, List.set_cons_zero, List.set_cons_succ]
  refine wpAnyH_done (by kernel_rfl) ?_ _
  go_wp2
  refine bodyPost_ret (results_row_tmp rfl _ _ g6 _ _ _ _ rfl HR69.out Tryz.underlying105 rfl (by simpa using i1.out fc)) rfl ?_
  exact ⟨rfl, HK9, HC9⟩
end
end Go.Proofs.YtfbfeplegdpemaaGreat
