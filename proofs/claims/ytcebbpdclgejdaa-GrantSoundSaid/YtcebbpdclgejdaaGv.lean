/- Package grant: a new super, an inode more, an inode less. No conditions but those named. -/
import Derived.Test.YtcebbpdclgejdaaGu
set_option linter.unusedVariables false
set_option maxRecDepth 20000
namespace Go.Proofs.Ytcebbpdclgejdaa
open Go.RowKit

/-- A new super. -/
def supN : Sup := ⟨1, fun j => j == 0, fun _ => 0, fun _ => false⟩
theorem built_supN : Try.prog.built 27 [(0, .int .u64 1)] = some (sup0.setS 1).cs.toArray := by kernel_rfl
theorem supN_cs : (sup0.setS 1).cs.set 1 (.bool true) = supN.cs := by kernel_rfl
theorem gnew_any (w : World) : Calls Try.prog 13 #[] w fun e w' => e = .returned (.agg supN.cs.toArray) ∧ Below w.heap.size w w' := by
  have i1 := Lib.hid (fun x : Sup => info_cs x)
  have hz0 := Lib.hid zero_sup
  obtain ⟨y, hy⟩ : ∃ y, sup0.setS 1 = y := ⟨_, rfl⟩
  have HBU := Lib.hid built_supN
  have HCS := Lib.hid supN_cs
  rw [hy] at HBU HCS
  clear hy
  go_enter Try.func13, Try.ntmps13
  go_wp2_with (first
    | (refine step_alloc rfl 0 rfl 27 rfl _ hz0.out ?_; intro g4 w4 hr4 hg4 hb4 hs4
       have R4 := Lib.hid hr4
       have HB4 := Lib.hid hb4
       have Q4 := Lib.hid (p := w.heap.size ≤ g4) (by rw [hg4.out]; exact Nat.le_refl _)
       clear hr4 hb4 hg4 hs4)
    | (refine step_build rfl 27 _ rfl [(0, .int .u64 1)] ?hv _ HBU.out ?_; case hv => simp [Act.eval])
    | (refine step_alloc rfl 1 rfl 27 rfl _ hz0.out ?_; intro g2 w2 hr2 hg2 hb2 hs2
       have R2 := Lib.hid hr2
       have R42 := Lib.hid (R4.out.kept hb2)
       have HB2 := Lib.hid (below_nxt hb2 HB4.out)
       have N42 := Lib.hid (p := g4 < g2) (by rw [hg2.out]; exact R4.out.lt)
       clear hr2 hb2 hg2 hs2)
    | (refine step_store rfl 27 (.tmp 1) (.tmp 2) rfl g2 (by rfl) _ sup0.cs y.cs (by rfl) R2.out (by rw [Sup.cs_len, Sup.cs_len]) (i1.out _) (Sup.cs_one _) ?_; intro w3 hr3 hg3 hs3
       have R3 := Lib.hid hr3
       have R43 := Lib.hid (R42.out.grown hg3 (by intro e; injection e with e; have := N42.out; omega))
       have HB3 := Lib.hid (below_own HB2.out hg3 (by have := N42.out; have := Q4.out; omega))
       have f1 := R3.out.free 1
       have c1 : w3.cell? ⟨g2, 1, none⟩ = some (.bool (y.u 0)) := (R3.out.cell 1).trans (y.c_u (j := 0) (by decide))
       clear hr3 hg3 hs3)
    | (refine step_load rfl 5 rfl 27 (.tmp 1) rfl g2 rfl supN.cs _ (Row.all (by have h := R3.out.put 1 (.bool true); rw [HCS.out] at h; exact h)) Try.underlying27 rfl (i1.out _) ?_)
    | (refine step_store rfl 27 (.tmp 0) (.tmp 5) rfl g4 (by rfl) _ sup0.cs supN.cs (by rfl) (R43.out.far (p := ⟨g2, 1, none⟩) (by have := N42.out; intro e; simp at e; omega) _) (by rw [Sup.cs_len, Sup.cs_len]) (i1.out _) (Sup.cs_one _) ?_; intro w9 hr9 hg9 hs9))
  refine bodyPost_ret (results_cell_row rfl _ _ g4 _ _ _ _ rfl hr9 Try.underlying27 rfl (by simpa using i1.out _)) rfl ?_
  exact ⟨rfl, below_own (HB3.out.setCell (show w.heap.size ≤ g2 by have := N42.out; have := Q4.out; omega) _) hg9 Q4.out⟩
/-! An inode more. -/
theorem add_full (x : Sup) (z : Int) (hb : ∀ j, j < 64 → x.i (j + 1) ≠ 0) (w : World) : Calls Try.prog 15 #[.agg x.cs.toArray, .int .i64 z] w fun e w' => e = .returned (.tuple #[.agg x.cs.toArray, .int .i64 0, .int .i64 23]) ∧ Below w.heap.size w w' := by
  have i1 := Lib.hid (fun x : Sup => info_cs x)
  have hz0 := Lib.hid zero_sup
  have HSP := Lib.hid (fun w => spare_no x hb w)
  clear hb
  go_enter Try.func15, Try.ntmps15
  go_wp2_with (first
    | (refine step_box rfl 2 rfl 27 (.tmp 0) rfl x.cs rfl ?_; intro g2 w2 hr2 hg2 hb2 hs2
       have R2 := Lib.hid hr2
       have HB2 := Lib.hid hb2
       have Q2 := Lib.hid (p := w.heap.size ≤ g2) (by rw [hg2.out]; exact Nat.le_refl _)
       clear hr2 hb2 hg2 hs2)
    | (refine step_alloc rfl 4 rfl 27 rfl _ hz0.out ?_; intro g4 w4 hr4 hg4 hb4 hs4
       have R4 := Lib.hid hr4
       have R24 := Lib.hid (R2.out.kept hb4)
       have HB4 := Lib.hid (below_nxt hb4 HB2.out)
       have N24 := Lib.hid (p := g2 < g4) (by rw [hg4.out]; exact R2.out.lt)
       clear hr4 hb4 hg4 hs4)
    | (refine step_load rfl 13 rfl 27 (.tmp 2) rfl g2 rfl x.cs _ R24.out.all Try.underlying27 rfl (i1.out _) ?_)
    | (go_at_call 31; refine (HSP.out _).mono ?_; rintro e w5 ⟨rfl, hb5⟩
       have R25 := Lib.hid (R24.out.kept hb5)
       have R45 := Lib.hid (R4.out.kept hb5)
       have HB5 := Lib.hid (below_nxt hb5 HB4.out)
       clear hb5)
    | (refine step_load rfl 19 rfl 27 (.tmp 2) rfl g2 rfl x.cs _ R25.out.all Try.underlying27 rfl (i1.out _) ?_)
    | (refine step_store rfl 27 (.tmp 4) (.tmp 19) rfl g4 (by rfl) _ sup0.cs x.cs (by rfl) R45.out (by rw [Sup.cs_len, Sup.cs_len]) (i1.out _) (Sup.cs_one _) ?_; intro w9 hr9 hg9 hs9))
  refine bodyPost_ret (results_row_two rfl _ _ g4 _ _ _ _ rfl hr9 Try.underlying27 rfl (by simpa using i1.out _)) rfl ?_
  exact ⟨rfl, below_own HB5.out hg9 (by have := N24.out; have := Q2.out; omega)⟩
theorem add_nospace (x : Sup) (z : Int) (k : Nat) (hk : k < 64) (h0 : x.i (k + 1) = 0) (hb : ∀ j, j < k → x.i (j + 1) ≠ 0) (hn : ∀ j : Nat, j < 256 → (j : Int) < z → x.u j = true) (w : World) : Calls Try.prog 15 #[.agg x.cs.toArray, .int .i64 z] w fun e w' => e = .returned (.tuple #[.agg x.cs.toArray, .int .i64 0, .int .i64 28]) ∧ Below w.heap.size w w' := by
  have i1 := Lib.hid (fun x : Sup => info_cs x)
  have hz0 := Lib.hid zero_sup
  have HSP := Lib.hid (fun w => spare_ok x k hk h0 hb w)
  have HTK := Lib.hid (fun w => take_no x z hn w)
  obtain ⟨kk, hkk⟩ : ∃ kk : Int, ((k + 1 : Nat) : Int) = kk := ⟨_, rfl⟩
  rw [hkk] at HSP
  clear hk h0 hb hn hkk
  go_enter Try.func15, Try.ntmps15
  go_wp2_with (first
    | (refine step_box rfl 2 rfl 27 (.tmp 0) rfl x.cs rfl ?_; intro g2 w2 hr2 hg2 hb2 hs2
       have R2 := Lib.hid hr2
       have HB2 := Lib.hid hb2
       have Q2 := Lib.hid (p := w.heap.size ≤ g2) (by rw [hg2.out]; exact Nat.le_refl _)
       clear hr2 hb2 hg2 hs2)
    | (refine step_alloc rfl 4 rfl 27 rfl _ hz0.out ?_; intro g4 w4 hr4 hg4 hb4 hs4
       have R4 := Lib.hid hr4
       have R24 := Lib.hid (R2.out.kept hb4)
       have HB4 := Lib.hid (below_nxt hb4 HB2.out)
       have N24 := Lib.hid (p := g2 < g4) (by rw [hg4.out]; exact R2.out.lt)
       clear hr4 hb4 hg4 hs4)
    | (refine step_load rfl 13 rfl 27 (.tmp 2) rfl g2 rfl x.cs _ R24.out.all Try.underlying27 rfl (i1.out _) ?_)
    | (go_at_call 31; refine (HSP.out _).mono ?_; rintro e w5 ⟨rfl, hb5⟩
       have R25 := Lib.hid (R24.out.kept hb5)
       have R45 := Lib.hid (R4.out.kept hb5)
       have HB5 := Lib.hid (below_nxt hb5 HB4.out)
       clear hb5)
    | (refine step_load rfl 21 rfl 27 (.tmp 2) rfl g2 rfl x.cs _ R25.out.all Try.underlying27 rfl (i1.out _) ?_)
    | (go_at_call 14; refine (HTK.out _).mono ?_; rintro e w6 ⟨rfl, hb6⟩
       have R26 := Lib.hid (R25.out.kept hb6)
       have R46 := Lib.hid (R45.out.kept hb6)
       have HB6 := Lib.hid (below_nxt hb6 HB5.out)
       clear hb6)
    | (refine step_alloc rfl 9 rfl 27 rfl _ hz0.out ?_; intro g7 w7 hr7 hg7 hb7 hs7
       have R7 := Lib.hid hr7
       have R27 := Lib.hid (R26.out.kept hb7)
       have R47 := Lib.hid (R46.out.kept hb7)
       have HB7 := Lib.hid (below_nxt hb7 HB6.out)
       have N47 := Lib.hid (p := g4 < g7) (by rw [hg7.out]; exact R46.out.lt)
       clear hr7 hb7 hg7 hs7)
    | (refine step_store rfl 27 (.tmp 9) (.tmp 24) rfl g7 (by rfl) _ sup0.cs x.cs (by rfl) R7.out (by rw [Sup.cs_len, Sup.cs_len]) (i1.out _) (Sup.cs_one _) ?_; intro w8 hr8 hg8 hs8
       have R28 := Lib.hid (R27.out.grown hg8 (by intro e; injection e with e; have := N47.out; have := N24.out; omega))
       have R48 := Lib.hid (R47.out.grown hg8 (by intro e; injection e with e; have := N47.out; omega))
       have HB8 := Lib.hid (below_own HB7.out hg8 (by have := N47.out; have := N24.out; have := Q2.out; omega))
       clear hr8 hg8 hs8)
    | (refine step_load rfl 29 rfl 27 (.tmp 2) rfl g2 rfl x.cs _ R28.out.all Try.underlying27 rfl (i1.out _) ?_)
    | (refine step_store rfl 27 (.tmp 4) (.tmp 29) rfl g4 (by rfl) _ sup0.cs x.cs (by rfl) R48.out (by rw [Sup.cs_len, Sup.cs_len]) (i1.out _) (Sup.cs_one _) ?_; intro w9 hr9 hg9 hs9))
  refine bodyPost_ret (results_row_two rfl _ _ g4 _ _ _ _ rfl hr9 Try.underlying27 rfl (by simpa using i1.out _)) rfl ?_
  exact ⟨rfl, below_own HB8.out hg9 (by have := N24.out; have := Q2.out; omega)⟩
theorem add_ok (x : Sup) (z : Int) (k s : Nat) (hk : k < 64) (h0 : x.i (k + 1) = 0) (hb : ∀ j, j < k → x.i (j + 1) ≠ 0) (hs : s < 256) (hz : (s : Int) < z) (hu : x.u s = false) (hn : ∀ j : Nat, j < s → x.u j = true) (w : World) : Calls Try.prog 15 #[.agg x.cs.toArray, .int .i64 z] w fun e w' => e = .returned (.tuple #[.agg ((x.setU s true).setI (k + 1) s).cs.toArray, .int .i64 ((k + 1 : Nat) : Int), .int .i64 0]) ∧ Below w.heap.size w w' := by
  have i1 := Lib.hid (fun x : Sup => info_cs x)
  have hz0 := Lib.hid zero_sup
  have HSP := Lib.hid (fun w => spare_ok x k hk h0 hb w)
  have HTK := Lib.hid (fun w => take_ok x z s hs hz hu hn w)
  obtain ⟨kk, hkk⟩ : ∃ kk, k + 1 = kk := ⟨_, rfl⟩
  rw [hkk] at HSP ⊢
  obtain ⟨y, hy⟩ : ∃ y, x.setU s true = y := ⟨_, rfl⟩
  rw [hy] at HTK ⊢
  have hk65 : (kk : Int) < 65 := by omega
  have HKN := Lib.hid (p := kk < 65) (by omega)
  clear hk h0 hb hn hkk hs hz hu hy
  go_enter Try.func15, Try.ntmps15
  go_wp2_with (first
    | (refine step_box rfl 2 rfl 27 (.tmp 0) rfl x.cs rfl ?_; intro g2 w2 hr2 hg2 hb2 hs2
       have R2 := Lib.hid hr2
       have HB2 := Lib.hid hb2
       have Q2 := Lib.hid (p := w.heap.size ≤ g2) (by rw [hg2.out]; exact Nat.le_refl _)
       clear hr2 hb2 hg2 hs2)
    | (refine step_alloc rfl 4 rfl 27 rfl _ hz0.out ?_; intro g4 w4 hr4 hg4 hb4 hs4
       have R4 := Lib.hid hr4
       have R24 := Lib.hid (R2.out.kept hb4)
       have HB4 := Lib.hid (below_nxt hb4 HB2.out)
       have N24 := Lib.hid (p := g2 < g4) (by rw [hg4.out]; exact R2.out.lt)
       clear hr4 hb4 hg4 hs4)
    | (refine step_load rfl 13 rfl 27 (.tmp 2) rfl g2 rfl x.cs _ R24.out.all Try.underlying27 rfl (i1.out _) ?_)
    | (go_at_call 31; refine (HSP.out _).mono ?_; rintro e w5 ⟨rfl, hb5⟩
       have R25 := Lib.hid (R24.out.kept hb5)
       have R45 := Lib.hid (R4.out.kept hb5)
       have HB5 := Lib.hid (below_nxt hb5 HB4.out)
       clear hb5)
    | (refine step_load rfl 21 rfl 27 (.tmp 2) rfl g2 rfl x.cs _ R25.out.all Try.underlying27 rfl (i1.out _) ?_)
    | (go_at_call 14; refine (HTK.out _).mono ?_; rintro e w6 ⟨rfl, hb6⟩
       have R26 := Lib.hid (R25.out.kept hb6)
       have R46 := Lib.hid (R45.out.kept hb6)
       have HB6 := Lib.hid (below_nxt hb6 HB5.out)
       clear hb6)
    | (refine step_alloc rfl 9 rfl 27 rfl _ hz0.out ?_; intro g7 w7 hr7 hg7 hb7 hs7
       have R7 := Lib.hid hr7
       have R47 := Lib.hid (R46.out.kept hb7)
       have HB7 := Lib.hid (below_nxt hb7 HB6.out)
       have N47 := Lib.hid (p := g4 < g7) (by rw [hg7.out]; exact R46.out.lt)
       clear hr7 hb7 hg7 hs7)
    | (refine step_store rfl 27 (.tmp 9) (.tmp 24) rfl g7 (by rfl) _ sup0.cs y.cs (by rfl) R7.out (by rw [Sup.cs_len, Sup.cs_len]) (i1.out _) (Sup.cs_one _) ?_; intro w8 hr8 hg8 hs8
       have R8 := Lib.hid hr8
       have R48 := Lib.hid (R47.out.grown hg8 (by intro e; injection e with e; have := N47.out; omega))
       have HB8 := Lib.hid (below_own HB7.out hg8 (by have := N47.out; have := N24.out; have := Q2.out; omega))
       have f1 := R8.out.free (257 + kk)
       have c1 : w8.cell? ⟨g7, 257 + kk, none⟩ = some (.int .i64 (y.i kk)) := by rw [R8.out.cell, y.c_i HKN.out]
       clear hr8 hg8 hs8)
    | (refine step_load rfl 35 rfl 27 (.tmp 9) rfl g7 rfl (y.setI kk s).cs _ (Row.all (by have h := R8.out.put (257 + kk) (.int .i64 s); rw [y.set_i _ HKN.out] at h; exact h)) Try.underlying27 rfl (i1.out _) ?_)
    | (refine step_store rfl 27 (.tmp 4) (.tmp 35) rfl g4 (by rfl) _ sup0.cs (y.setI kk s).cs (by rfl) (R48.out.far (p := ⟨g7, 257 + kk, none⟩) (by have := N47.out; intro e; simp at e; omega) _) (by rw [Sup.cs_len, Sup.cs_len]) (i1.out _) (Sup.cs_one _) ?_; intro w9 hr9 hg9 hs9))
  refine bodyPost_ret (results_row_two rfl _ _ g4 _ _ _ _ rfl hr9 Try.underlying27 rfl (by simpa using i1.out _)) rfl ?_
  exact ⟨rfl, below_own (HB8.out.setCell (show w.heap.size ≤ g7 by have := N47.out; have := N24.out; have := Q2.out; omega) _) hg9 (by have := N24.out; have := Q2.out; omega)⟩
end Go.Proofs.Ytcebbpdclgejdaa
