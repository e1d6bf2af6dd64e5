/- Package grant: a new super, an inode more, an inode less. No conditions but those named. -/
import Derived.Test.YtfbfeplegdpemaaGreatMgGc
import Derived.Deep.RegionHeld3
import Derived.Deep.MidRow
import Derived.Test.YtfbfeplegdpemaaGreatGn
import Derived.Test.YtfbfeplegdpemaaGreatMgMem
set_option linter.unusedVariables false
set_option maxRecDepth 20000
namespace Go.Proofs.YtfbfeplegdpemaaGreat
open Go.RowKit

/-- A new super. -/
def supN : Sup := ⟨1, fun j => j == 0, fun _ => 0, fun _ => false⟩
theorem built_supN : Tryz.prog.built 59 [(0, .int .u64 1)] = some (sup0.setS 1).cs.toArray := by kernel_rfl
theorem supN_cs : (sup0.setS 1).cs.set 1 (.bool true) = supN.cs := by kernel_rfl
theorem gnew_any (w : World) : Calls Tryz.prog 70 #[] w fun e w' => e = .returned (.agg supN.cs.toArray) ∧ Below w.heap.size w w' := by
  have i1 := Lib.hid (fun x : Sup => info_cs x)
  have hz0 := Lib.hid zero_sup
  obtain ⟨y, hy⟩ : ∃ y, sup0.setS 1 = y := ⟨_, rfl⟩
  have HBU := Lib.hid built_supN
  have HCS := Lib.hid supN_cs
  rw [hy] at HBU HCS
  clear hy
  go_enter Tryz.func70, Tryz.ntmps70
  go_wp2_with (first
    | (refine step_alloc rfl 0 rfl 59 rfl _ hz0.out ?_; intro g4 w4 hr4 hg4 hb4 hs4
       have R4 := Lib.hid hr4
       have HB4 := Lib.hid hb4
       have Q4 := Lib.hid (p := w.heap.size ≤ g4) (by rw [hg4.out]; exact Nat.le_refl _)
       clear hr4 hb4 hg4 hs4)
    | (refine step_build rfl 59 _ rfl [(0, .int .u64 1)] ?hv _ HBU.out ?_; case hv => simp [Act.eval])
    | (refine step_alloc rfl 1 rfl 59 rfl _ hz0.out ?_; intro g2 w2 hr2 hg2 hb2 hs2
       have R2 := Lib.hid hr2
       have R42 := Lib.hid (R4.out.kept hb2)
       have HB2 := Lib.hid (below_nxt hb2 HB4.out)
       have N42 := Lib.hid (p := g4 < g2) (by rw [hg2.out]; exact R4.out.lt)
       clear hr2 hb2 hg2 hs2)
    | (refine step_store rfl 59 (.tmp 1) (.tmp 2) rfl g2 (by rfl) _ sup0.cs y.cs (by rfl) R2.out (by rw [Sup.cs_len, Sup.cs_len]) (i1.out _) (Sup.cs_one _) ?_; intro w3 hr3 hg3 hs3
       have R3 := Lib.hid hr3
       have R43 := Lib.hid (R42.out.grown hg3 (by intro e; injection e with e; have := N42.out; omega))
       have HB3 := Lib.hid (below_own HB2.out hg3 (by have := N42.out; have := Q4.out; omega))
       have f1 := R3.out.free 1
       have c1 : w3.cell? ⟨g2, 1, none⟩ = some (.bool (y.u 0)) := (R3.out.cell 1).trans (y.c_u (j := 0) (by decide))
       clear hr3 hg3 hs3)
    | (refine step_load rfl 5 rfl 59 (.tmp 1) rfl g2 rfl supN.cs _ (Row.all (by have h := R3.out.put 1 (.bool true); rw [HCS.out] at h; exact h)) Tryz.underlying59 rfl (i1.out _) ?_)
    | (refine step_store rfl 59 (.tmp 0) (.tmp 5) rfl g4 (by rfl) _ sup0.cs supN.cs (by rfl) (R43.out.far (p := ⟨g2, 1, none⟩) (by have := N42.out; intro e; simp at e; omega) _) (by rw [Sup.cs_len, Sup.cs_len]) (i1.out _) (Sup.cs_one _) ?_; intro w9 hr9 hg9 hs9))
  refine bodyPost_ret (results_cell_row rfl _ _ g4 _ _ _ _ rfl hr9 Tryz.underlying59 rfl (by simpa using i1.out _)) rfl ?_
  exact ⟨rfl, below_own (HB3.out.setCell (show w.heap.size ≤ g2 by have := N42.out; have := Q4.out; omega) _) hg9 Q4.out⟩
/-! An inode more. -/
theorem add_ok (x : Sup) (z : Int) (k s : Nat) (hk : k < 64) (h0 : x.i (k + 1) = 0) (hb : ∀ j, j < k → x.i (j + 1) ≠ 0) (hs : s < 256) (hz : (s : Int) < z) (hu : x.u s = false) (hn : ∀ j : Nat, j < s → x.u j = true) (w : World) : Calls Tryz.prog 38 #[.agg x.cs.toArray, .int .i64 z] w fun e w' => e = .returned (.tuple #[.agg ((x.setU s true).setI (k + 1) s).cs.toArray, .int .i64 ((k + 1 : Nat) : Int), .int .i64 0]) ∧ Below w.heap.size w w' := by
  have i1 := Lib.hid (fun x : Sup => info_cs x)
  have hz0 := Lib.hid zero_sup
  have HSP := Lib.hid (fun w => spare_ok x k hk h0 hb w)
  have HTK := Lib.hid (fun w => take_ok x z s hs hz hu hn w)
  obtain ⟨kk, hkk⟩ : ∃ kk, k + 1 = kk := ⟨_, rfl⟩
  rw [hkk] at HSP ⊢
  obtain ⟨y, hy⟩ : ∃ y, x.setU s true = y := ⟨_, rfl⟩
  rw [hy] at HTK ⊢
  have hk65 : (kk : Int) < 65 := by omega
  have HKN := Lib.hid (p := kk < 65) (by omega)
  clear hk h0 hb hn hkk hs hz hu hy
  go_enter Tryz.func38, Tryz.ntmps38
  go_wp2_with (first
    | (refine step_box rfl 2 rfl 59 (.tmp 0) rfl x.cs rfl ?_; intro g2 w2 hr2 hg2 hb2 hs2
       have R2 := Lib.hid hr2
       have HB2 := Lib.hid hb2
       have Q2 := Lib.hid (p := w.heap.size ≤ g2) (by rw [hg2.out]; exact Nat.le_refl _)
       clear hr2 hb2 hg2 hs2)
    | (refine step_alloc rfl 4 rfl 59 rfl _ hz0.out ?_; intro g4 w4 hr4 hg4 hb4 hs4
       have R4 := Lib.hid hr4
       have R24 := Lib.hid (R2.out.kept hb4)
       have HB4 := Lib.hid (below_nxt hb4 HB2.out)
       have N24 := Lib.hid (p := g2 < g4) (by rw [hg4.out]; exact R2.out.lt)
       clear hr4 hb4 hg4 hs4)
    | (refine step_load rfl 13 rfl 59 (.tmp 2) rfl g2 rfl x.cs _ R24.out.all Tryz.underlying59 rfl (i1.out _) ?_)
    | (go_at_call 71; refine (HSP.out _).mono ?_; rintro e w5 ⟨rfl, hb5⟩
       have R25 := Lib.hid (R24.out.kept hb5)
       have R45 := Lib.hid (R4.out.kept hb5)
       have HB5 := Lib.hid (below_nxt hb5 HB4.out)
       clear hb5)
    | (refine step_load rfl 21 rfl 59 (.tmp 2) rfl g2 rfl x.cs _ R25.out.all Tryz.underlying59 rfl (i1.out _) ?_)
    | (go_at_call 72; refine (HTK.out _).mono ?_; rintro e w6 ⟨rfl, hb6⟩
       have R26 := Lib.hid (R25.out.kept hb6)
       have R46 := Lib.hid (R45.out.kept hb6)
       have HB6 := Lib.hid (below_nxt hb6 HB5.out)
       clear hb6)
    | (refine step_alloc rfl 9 rfl 59 rfl _ hz0.out ?_; intro g7 w7 hr7 hg7 hb7 hs7
       have R7 := Lib.hid hr7
       have R47 := Lib.hid (R46.out.kept hb7)
       have HB7 := Lib.hid (below_nxt hb7 HB6.out)
       have N47 := Lib.hid (p := g4 < g7) (by rw [hg7.out]; exact R46.out.lt)
       clear hr7 hb7 hg7 hs7)
    | (refine step_store rfl 59 (.tmp 9) (.tmp 24) rfl g7 (by rfl) _ sup0.cs y.cs (by rfl) R7.out (by rw [Sup.cs_len, Sup.cs_len]) (i1.out _) (Sup.cs_one _) ?_; intro w8 hr8 hg8 hs8
       have R8 := Lib.hid hr8
       have R48 := Lib.hid (R47.out.grown hg8 (by intro e; injection e with e; have := N47.out; omega))
       have HB8 := Lib.hid (below_own HB7.out hg8 (by have := N47.out; have := N24.out; have := Q2.out; omega))
       have f1 := R8.out.free (257 + kk)
       have c1 : w8.cell? ⟨g7, 257 + kk, none⟩ = some (.int .i64 (y.i kk)) := by rw [R8.out.cell, y.c_i HKN.out]
       clear hr8 hg8 hs8)
    | (refine step_load rfl 35 rfl 59 (.tmp 9) rfl g7 rfl (y.setI kk s).cs _ (Row.all (by have h := R8.out.put (257 + kk) (.int .i64 s); rw [y.set_i _ HKN.out] at h; exact h)) Tryz.underlying59 rfl (i1.out _) ?_)
    | (refine step_store rfl 59 (.tmp 4) (.tmp 35) rfl g4 (by rfl) _ sup0.cs (y.setI kk s).cs (by rfl) (R48.out.far (p := ⟨g7, 257 + kk, none⟩) (by have := N47.out; intro e; simp at e; omega) _) (by rw [Sup.cs_len, Sup.cs_len]) (i1.out _) (Sup.cs_one _) ?_; intro w9 hr9 hg9 hs9))
  refine bodyPost_ret (results_row_two rfl _ _ g4 _ _ _ _ rfl hr9 Tryz.underlying59 rfl (by simpa using i1.out _)) rfl ?_
  exact ⟨rfl, below_own (HB8.out.setCell (show w.heap.size ≤ g7 by have := N47.out; have := N24.out; have := Q2.out; omega) _) hg9 (by have := N24.out; have := Q2.out; omega)⟩
end Go.Proofs.YtfbfeplegdpemaaGreat
/- Package grant: an inode less. No conditions but those named. -/
set_option linter.unusedVariables false
set_option maxRecDepth 20000
namespace Go.Proofs.YtfbfeplegdpemaaGreat
open Go.RowKit

section
variable {P : Program} {o : Oper} {a : Act} {w : World} {K : Act → World → Prop} {Q : Exit → Act → World → Prop}
end
end Go.Proofs.YtfbfeplegdpemaaGreat
/- Steps that came in; what keeps a super one that may be. Conditions: those named. -/
set_option linter.unusedVariables false
set_option maxRecDepth 20000
namespace Go.Proofs.YtfbfeplegdpemaaGreat
open Go.RowKit

/-! What keeps it. -/
/-! What is packed is read as it was. -/
theorem pb_get (x : Sup) (j : Nat) (hj : j < 256) : (lst 256 x.pb).getD j 0 = x.pb j := by
  simp [List.getD, lst_get x.pb hj]
theorem lst_drop_take (f : Nat → UInt8) (n i m : Nat) (h : i + m ≤ n) : ((lst n f).drop i).take m = lst m (fun j => f (i + j)) := by
  rw [lst_cut _ i m (by rw [lst_len]; exact h)]
  refine lst_congr fun j hj => ?_
  simp [List.getD, lst_get f (show i + j < n by omega)]
theorem sr_pb (x : Sup) (h : x.May) (hs64 : x.s < 18446744073709551616) : (sr (lst 256 x.pb)).cs = x.cs := by
  have hS : srS (lst 256 x.pb) = x.s := by
    unfold srS
    rw [lst_drop_take x.pb 256 4 8 (by omega)]
    have e : lst 8 (fun j => x.pb (4 + j)) = leb x.s 8 := by
      rw [leb_lst]
      refine lst_congr fun j hj => ?_
      unfold Sup.pb
      rw [if_neg (by omega), if_pos (by omega), show 4 + j - 4 = j by omega]
    rw [e, num_leb, Nat.mod_eq_of_lt hs64]
  refine Sup.cs_of hS (fun j hj => ?_) (fun j hj => ?_) (fun j hj => ?_)
  · show (if j < 256 then srU _ j else false) = x.u j
    rw [if_pos hj]
    unfold srU
    rw [pb_get x _ (by omega)]
    have e : x.pb (12 + j / 8) = bt x.u (j / 8) := by
      unfold Sup.pb
      rw [if_neg (by omega), if_neg (by omega), if_pos (by omega), show 12 + j / 8 - 12 = j / 8 by omega]
    rw [e, ub_bt _ _ _ (by omega), show 8 * (j / 8) + j % 8 = j by omega]
  · show (if 1 ≤ j ∧ j < 64 + 1 then srI _ (j - 1) else 0) = x.i j
    by_cases h0 : j = 0
    · subst h0
      rw [if_neg (by omega)]
      exact h.2.2.1.symm
    · rw [if_pos (by omega)]
      obtain ⟨a, rfl⟩ : ∃ a, j = a + 1 := ⟨j - 1, by omega⟩
      rw [Nat.add_sub_cancel]
      have hb := oka_b (h.2.2.2 (a + 1) hj)
      unfold srI
      rw [lst_drop_take x.pb 256 (44 + 2 * a) 2 (by omega)]
      have e : lst 2 (fun j => x.pb (44 + 2 * a + j)) = leb (x.i (a + 1)).toNat 2 := by
        rw [leb_lst]
        refine lst_congr fun j hj => ?_
        unfold Sup.pb
        rw [if_neg (by omega), if_neg (by omega), if_neg (by omega), if_pos (by omega), show 1 + (44 + 2 * a + j - 44) / 2 = a + 1 by omega, show (44 + 2 * a + j - 44) % 2 = j by omega]
      rw [e, num_leb]
      have e2 : (256 : Nat) ^ 2 = 65536 := rfl
      omega
  · show (if 1 ≤ j ∧ j < 64 + 1 then srO _ (j - 1) else false) = x.o j
    by_cases h0 : j = 0
    · subst h0
      rw [if_neg (by omega)]
      have h1 := h.2.2.2 0 (by omega)
      unfold Sup.OkA at h1
      rw [if_pos h.2.2.1] at h1
      exact h1.symm
    · rw [if_pos (by omega)]
      obtain ⟨a, rfl⟩ : ∃ a, j = a + 1 := ⟨j - 1, by omega⟩
      rw [Nat.add_sub_cancel]
      unfold srO
      rw [pb_get x _ (by omega)]
      have e : x.pb (172 + a / 8) = bt (fun k => x.o (k + 1)) (a / 8) := by
        unfold Sup.pb
        rw [if_neg (by omega), if_neg (by omega), if_neg (by omega), if_neg (by omega), if_pos (by omega), show 172 + a / 8 - 172 = a / 8 by omega]
      rw [e, ub_bt _ _ _ (by omega), show 8 * (a / 8) + a % 8 = a by omega]
theorem cs_inj {x y : Sup} (h : x.cs = y.cs) : x.s = y.s ∧ (∀ j, j < 256 → x.u j = y.u j) ∧ (∀ j, j < 65 → x.i j = y.i j) ∧ ∀ j, j < 65 → x.o j = y.o j := by
  refine ⟨?_, fun j hj => ?_, fun j hj => ?_, fun j hj => ?_⟩
  · have h1 := x.c_s
    rw [h, y.c_s] at h1
    injection h1 with h1
    injection h1 with _ h1
    omega
  · have h1 := x.c_u hj
    rw [h, y.c_u hj] at h1
    injection h1 with h1
    injection h1 with h1
    exact h1.symm
  · have h1 := x.c_i hj
    rw [h, y.c_i hj] at h1
    injection h1 with h1
    injection h1 with _ h1
    exact h1.symm
  · have h1 := x.c_o hj
    rw [h, y.c_o hj] at h1
    injection h1 with h1
    injection h1 with h1
    exact h1.symm
theorem pb_congr {x y : Sup} (e1 : y.s = x.s) (e2 : ∀ j, j < 256 → y.u j = x.u j) (e3 : ∀ j, j < 65 → y.i j = x.i j) (e4 : ∀ j, j < 65 → y.o j = x.o j) (j : Nat) (hj : j < 256) : y.pb j = x.pb j := by
  have eu : ∀ k, k < 32 → bt y.u k = bt x.u k := fun k hk => by
    unfold bt
    have : ∀ m, m ≤ 8 → bn y.u k m = bn x.u k m := fun m => by
      induction m with
      | zero => intro _; rfl
      | succ m ih => intro hm; rw [bn_step, bn_step, ih (by omega), e2 (8 * k + m) (by omega)]
    rw [this 8 (by omega)]
  have eo : ∀ k, k < 8 → bt (fun j => y.o (j + 1)) k = bt (fun j => x.o (j + 1)) k := fun k hk => by
    unfold bt
    have : ∀ m, m ≤ 8 → bn (fun j => y.o (j + 1)) k m = bn (fun j => x.o (j + 1)) k m := fun m => by
      induction m with
      | zero => intro _; rfl
      | succ m ih => intro hm; rw [bn_step, bn_step, ih (by omega), e4 (8 * k + m + 1) (by omega)]
    rw [this 8 (by omega)]
  unfold Sup.pb
  by_cases c1 : j < 4
  · rw [if_pos c1, if_pos c1]
  · rw [if_neg c1, if_neg c1]
    by_cases c2 : j < 12
    · rw [if_pos c2, if_pos c2, e1]
    · rw [if_neg c2, if_neg c2]
      by_cases c3 : j < 44
      · rw [if_pos c3, if_pos c3, eu _ (by omega)]
      · rw [if_neg c3, if_neg c3]
        by_cases c4 : j < 172
        · rw [if_pos c4, if_pos c4, e3 _ (by omega)]
        · rw [if_neg c4, if_neg c4]
          by_cases c5 : j < 180
          · rw [if_pos c5, if_pos c5, eo _ (by omega)]
          · rw [if_neg c5, if_neg c5]
theorem sok_pb (x : Sup) (h : x.May) (hs64 : x.s < 18446744073709551616) : SOk (lst 256 x.pb) := by
  have e := sr_pb x h hs64
  obtain ⟨e1, e2, e3, e4⟩ := cs_inj e
  refine ⟨lst_len _ _, ⟨by rw [e1]; exact h.1, by rw [e2 0 (by omega)]; exact h.2.1, by rw [e3 0 (by omega)]; exact h.2.2.1, fun j hj => ?_⟩, ?_⟩
  · have h1 := h.2.2.2 j hj
    unfold Sup.OkA at h1 ⊢
    rw [e3 j hj, e4 j hj]
    by_cases h0 : x.i j = 0
    · rw [if_pos h0] at h1 ⊢
      exact h1
    · rw [if_neg h0] at h1 ⊢
      refine ⟨h1.1, h1.2.1, by rw [e2 _ (by omega)]; exact h1.2.2.1, fun k hk => ?_⟩
      rw [e3 k (by omega)]
      exact h1.2.2.2 k hk
  · exact lst_congr fun j hj => pb_congr e1 e2 e3 e4 j hj
end Go.Proofs.YtfbfeplegdpemaaGreat
/- An inode's cells: what a change of one of them makes of them; when two are the same; its bytes, field by field. No conditions. -/
set_option linter.unusedVariables false
set_option maxRecDepth 20000
namespace Go.Proofs.YtfbfeplegdpemaaGreat
open Go.RowKit

theorem wrap_64 (n : Int) : IntKind.u64.wrap n = n % 18446744073709551616 := by simp [IntKind.wrap, IntKind.bits, IntKind.signed]
theorem wrap_32 (n : Int) : IntKind.u32.wrap n = n % 4294967296 := by simp [IntKind.wrap, IntKind.bits, IntKind.signed]
theorem inl_congr {n : Nat} {f g : Nat → Int} (h : ∀ j, j < n → f j = g j) : inl n f = inl n g := List.map_congr_left fun j hj => by rw [h j (List.mem_range.1 hj)]
theorem inl_one (n : Nat) (f : Nat → Int) : ∀ v ∈ inl n f, v.oneCell' = true := by
  intro v hv
  obtain ⟨_, _, rfl⟩ := List.mem_map.1 hv
  rfl
theorem inl_set {n j : Nat} (f : Nat → Int) (v : Int) (h : j < n) : (inl n f).set j (.int .i64 v) = inl n (at1 f j v) := by
  apply List.ext_getElem?
  intro k
  rw [List.getElem?_set, inl_len]
  by_cases hk : j = k
  · subst hk
    rw [if_pos rfl, if_pos h, inl_get _ h, at1_same]
  · rw [if_neg hk]
    by_cases hn : k < n
    · rw [inl_get _ hn, inl_get _ hn, at1_other _ _ (by omega)]
    · rw [List.getElem?_eq_none (by rw [inl_len]; omega), List.getElem?_eq_none (by rw [inl_len]; omega)]
/-- The kinds of an inode's cells. -/
def kd (k : Nat) : IntKind := if k = 2 ∨ k = 3 ∨ k = 7 ∨ k = 9 then .u32 else if k = 6 then .u64 else .i64
/-- An inode's cells. -/
def ncs (v : Nat → Int) : List Value := .int .i64 (v 0) :: .int .i64 (v 1) :: .int .u32 (v 2) :: .int .u32 (v 3) :: .int .i64 (v 4) :: .int .i64 (v 5) :: .int .u64 (v 6) :: .int .u32 (v 7) :: .int .i64 (v 8) :: .int .u32 (v 9) :: inl 17 fun j => v (10 + j)
theorem ncs_eq (v : Nat → Int) : ncs v = (List.range 27).map fun k => .int (kd k) (v k) := rfl
theorem ncs_len (v : Nat → Int) : (ncs v).length = 27 := rfl
theorem ncs_get (v : Nat → Int) {k : Nat} (h : k < 27) : (ncs v)[k]? = some (.int (kd k) (v k)) := by rw [ncs_eq]; simp [h]
theorem ncs_slot (v : Nat → Int) {j : Nat} (h : j < 17) : (ncs v)[10 + j]? = some (.int .i64 (v (10 + j))) := by
  rw [ncs_get v (by omega)]
  unfold kd
  rw [if_neg (by omega), if_neg (by omega)]
theorem ncs_congr {v u : Nat → Int} (h : ∀ k, k < 27 → v k = u k) : ncs v = ncs u := by
  rw [ncs_eq, ncs_eq]
  exact List.map_congr_left fun j hj => by rw [h j (List.mem_range.1 hj)]
theorem ncs_set (v : Nat → Int) {k : Nat} (h : k < 27) (z : Int) : (ncs v).set k (.int (kd k) z) = ncs (at1 v k z) := by
  apply List.ext_getElem?
  intro j
  rw [List.getElem?_set, ncs_len]
  by_cases hk : k = j
  · subst hk
    rw [if_pos rfl, if_pos h, ncs_get _ h, at1_same]
  · rw [if_neg hk]
    by_cases hn : j < 27
    · rw [ncs_get _ hn, ncs_get _ hn, at1_other _ _ (by omega)]
    · rw [List.getElem?_eq_none (by rw [ncs_len]; omega), List.getElem?_eq_none (by rw [ncs_len]; omega)]
theorem ncs_one (v : Nat → Int) : ∀ x ∈ ncs v, x.oneCell' = true := by
  intro x hx
  rw [ncs_eq] at hx
  obtain ⟨_, _, rfl⟩ := List.mem_map.1 hx
  rfl
def ino0 : Nat → Int := fun _ => 0
theorem info_ino : (Tryz.prog.info? 44).map (·.size) = some 27 := by kernel_rfl
theorem info_112 : (Tryz.prog.info? 134).map (·.size) = some 112 := by kernel_rfl
theorem info_ncs (v : Nat → Int) : (Tryz.prog.info? 44).map (·.size) = some (ncs v).length := info_ino
theorem info_inl (f : Nat → Int) : (Tryz.prog.info? 134).map (·.size) = some (inl 112 f).length := by rw [inl_len]; exact info_112
theorem zero_ino (w : World) : (zeroValue 44).run Tryz.prog w = .ok (.agg (ncs ino0).toArray) w := by kernel_rfl
theorem built_ino0 : Tryz.prog.built 44 [] = some (ncs ino0).toArray := by kernel_rfl
theorem zero_112 (w : World) : (zeroValue 134).run Tryz.prog w = .ok (.agg (inl 112 ino0).toArray) w := by kernel_rfl
theorem built_112 : Tryz.prog.built 134 [] = some (inl 112 ino0).toArray := by kernel_rfl
/-! Two of them, compared. -/
theorem l112_guard : Tryz.prog.eqGuardType Tryz.prog.depth 134 = false := by kernel_rfl
/-! Fields as bytes. -/
/-- The sizes of the fields. -/
def sz (k : Nat) : Nat := match k with | 0 => 1 | 2 => 4 | 3 => 4 | 5 => 4 | 6 => 8 | 7 => 4 | 9 => 4 | _ => 2
theorem sz_slot (j : Nat) : sz (10 + j) = 2 := by
  unfold sz
  split <;> first | omega | rfl
def off (s : Nat → Nat) : Nat → Nat
  | 0 => 0
  | k + 1 => off s k + s k
/-- Numbers of sizes, as bytes. -/
def nb (s : Nat → Nat) (v : Nat → Int) : Nat → List UInt8
  | 0 => []
  | k + 1 => nb s v k ++ leb (v k).toNat (s k)
theorem nb_len (s : Nat → Nat) (v : Nat → Int) : ∀ k, (nb s v k).length = off s k
  | 0 => rfl
  | k + 1 => by rw [nb, List.length_append, nb_len s v k, leb_len]; rfl
theorem nb_split (s : Nat → Nat) (v : Nat → Int) (k : Nat) : ∀ m, k < m → ∃ r, nb s v m = nb s v k ++ (leb (v k).toNat (s k) ++ r)
  | m + 1, h => by
    by_cases hk : k = m
    · subst hk
      exact ⟨[], by rw [List.append_nil]; rfl⟩
    · obtain ⟨r, hr⟩ := nb_split s v k m (by omega)
      exact ⟨r ++ leb (v m).toNat (s m), by rw [nb, hr]; simp⟩
theorem nb_congr (s : Nat → Nat) {v u : Nat → Int} : ∀ k, (∀ j, j < k → v j = u j) → nb s v k = nb s u k
  | 0, _ => rfl
  | k + 1, h => by rw [nb, nb, nb_congr s k (fun j hj => h j (by omega)), h k (by omega)]
/-- The number of a field. -/
def rdn (s : Nat → Nat) (l : List UInt8) (k : Nat) : Nat := num ((l.drop (off s k)).take (s k))
def rd (s : Nat → Nat) (l : List UInt8) (k : Nat) : Int := (rdn s l k : Int)
theorem rdn_lt (s : Nat → Nat) (l : List UInt8) (k : Nat) : rdn s l k < 256 ^ s k := by
  unfold rdn
  have h1 := num_lt ((l.drop (off s k)).take (s k))
  have h2 : ((l.drop (off s k)).take (s k)).length ≤ s k := by simp; omega
  exact Nat.lt_of_lt_of_le h1 (Nat.pow_le_pow_right (by omega) h2)
theorem rd_nb (s : Nat → Nat) (v : Nat → Int) (m k : Nat) (hk : k < m) (t : List UInt8) (h0 : 0 ≤ v k) (hl : (v k).toNat < 256 ^ s k) : rd s (nb s v m ++ t) k = v k := by
  obtain ⟨r, hr⟩ := nb_split s v k m hk
  unfold rd rdn
  rw [hr, List.append_assoc, List.drop_left' (nb_len s v k), List.append_assoc, List.take_left' (leb_len _ _), num_leb, Nat.mod_eq_of_lt hl]
  omega
/-- The block of numbers. -/
def blk (s : Nat → Nat) (v : Nat → Int) (n : Nat) : List UInt8 := nb s v n ++ List.replicate (256 - off s n) 0
theorem blk_len (s : Nat → Nat) (v : Nat → Int) (n : Nat) (h : off s n ≤ 256) : (blk s v n).length = 256 := by
  unfold blk
  rw [List.length_append, nb_len, List.length_replicate]
  omega
def s2 (k : Nat) : Nat := 2
theorem off_s2 : ∀ k, off s2 k = 2 * k
  | 0 => rfl
  | k + 1 => by rw [off, off_s2 k]; show 2 * k + 2 = _; omega
theorem off_slot : ∀ j, off sz (10 + j) = 35 + 2 * j
  | 0 => rfl
  | j + 1 => by
    show off sz (10 + j) + sz (10 + j) = _
    rw [off_slot j, sz_slot]
    omega
/-! What may be. -/
def slotB (f : Nat → Int) (n : Nat) : Bool := (List.range n).all fun j => decide (0 ≤ f j) && decide (f j ≤ 255)
theorem slotB_iff (f : Nat → Int) (n : Nat) : slotB f n = true ↔ ∀ j, j < n → 0 ≤ f j ∧ f j ≤ 255 := by
  unfold slotB
  simp only [List.all_eq_true, List.mem_range, Bool.and_eq_true, decide_eq_true_eq]
theorem slotB_succ (f : Nat → Int) (n : Nat) : slotB f (n + 1) = (slotB f n && (decide (0 ≤ f n) && decide (f n ≤ 255))) := by
  unfold slotB
  rw [List.range_succ, List.all_append]
  simp
def inB (v a b : Int) : Bool := decide (a ≤ v) && decide (v ≤ b)
theorem inB_iff (v a b : Int) : inB v a b = true ↔ a ≤ v ∧ v ≤ b := by unfold inB; simp
def mayB (v : Nat → Int) : Bool := inB (v 0) 1 3 && (inB (v 1) 0 511 && (inB (v 4) 0 32768 && (inB (v 5) 0 32768 && (!(v 6 == 0) && (inB (v 8) 0 64 && (slotB (fun j => v (10 + j)) 16 && inB (v 26) 0 255))))))
theorem mayB_iff (v : Nat → Int) : mayB v = true ↔ (1 ≤ v 0 ∧ v 0 ≤ 3) ∧ (0 ≤ v 1 ∧ v 1 ≤ 511) ∧ (0 ≤ v 4 ∧ v 4 ≤ 32768) ∧ (0 ≤ v 5 ∧ v 5 ≤ 32768) ∧ v 6 ≠ 0 ∧ (0 ≤ v 8 ∧ v 8 ≤ 64) ∧ (∀ j, j < 16 → 0 ≤ v (10 + j) ∧ v (10 + j) ≤ 255) ∧ (0 ≤ v 26 ∧ v 26 ≤ 255) := by
  unfold mayB
  simp only [Bool.and_eq_true, inB_iff, slotB_iff, Bool.not_eq_true', beq_eq_false_iff_ne, ne_eq]
/-- Cells that a machine may hold there. -/
structure Wf (v : Nat → Int) : Prop where
  u : ∀ k, kd k = .u32 → 0 ≤ v k ∧ v k < 4294967296
  s : 0 ≤ v 6 ∧ v 6 < 18446744073709551616
theorem May.fits {v : Nat → Int} (h : mayB v = true) (hw : Wf v) (k : Nat) (hk : k < 27) : 0 ≤ v k ∧ (v k).toNat < 256 ^ sz k := by
  obtain ⟨h0, h1, h4, h5, h6, h8, hs, h26⟩ := (mayB_iff v).1 h
  by_cases h10 : k < 10
  · rcases (by omega : k = 0 ∨ k = 1 ∨ k = 2 ∨ k = 3 ∨ k = 4 ∨ k = 5 ∨ k = 6 ∨ k = 7 ∨ k = 8 ∨ k = 9) with rfl | rfl | rfl | rfl | rfl | rfl | rfl | rfl | rfl | rfl
    · exact ⟨by omega, by show _ < 256; omega⟩
    · exact ⟨by omega, by show _ < 65536; omega⟩
    · have := hw.u 2 rfl; exact ⟨by omega, by show _ < 4294967296; omega⟩
    · have := hw.u 3 rfl; exact ⟨by omega, by show _ < 4294967296; omega⟩
    · exact ⟨by omega, by show _ < 65536; omega⟩
    · exact ⟨by omega, by show _ < 4294967296; omega⟩
    · have := hw.s; exact ⟨by omega, by show _ < 18446744073709551616; omega⟩
    · have := hw.u 7 rfl; exact ⟨by omega, by show _ < 4294967296; omega⟩
    · exact ⟨by omega, by show _ < 65536; omega⟩
    · have := hw.u 9 rfl; exact ⟨by omega, by show _ < 4294967296; omega⟩
  · obtain ⟨j, rfl⟩ : ∃ j, k = 10 + j := ⟨k - 10, by omega⟩
    rw [sz_slot]
    by_cases hj : j < 16
    · have := hs j hj; exact ⟨by omega, by show _ < 65536; omega⟩
    · obtain rfl : j = 16 := by omega
      exact (show 0 ≤ v 26 ∧ (v 26).toNat < 65536 by omega)
end Go.Proofs.YtfbfeplegdpemaaGreat
