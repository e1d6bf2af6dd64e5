/- Package grant: a slot given, a new super, what is counted, the least inode that there isn't, an inode more. No conditions but those named. -/
import Derived.Test.YtfbfeplegdpemaaGreatMgKh
import Derived.BigGuard
set_option linter.unusedVariables false
set_option maxRecDepth 20000
namespace Go.Proofs.YtfbfeplegdpemaaGreat
open Go.RowKit

def Sup.give (x : Sup) (z : Int) : Sup := if 1 ≤ z ∧ z < 256 then x.setU z.toNat false else x
theorem give_any (x : Sup) (z : Int) (w : World) : Calls Tryz.prog 86 #[.agg x.cs.toArray, .int .i64 z] w fun e w' => e = .returned (.agg (x.give z).cs.toArray) ∧ Below w.heap.size w w' := by
  have i1 := Lib.hid (fun x : Sup => info_cs x)
  have hz0 := Lib.hid zero_sup
  by_cases h : 1 ≤ z ∧ z < 256
  · obtain ⟨k, rfl⟩ : ∃ k : Nat, z = (k : Int) := ⟨z.toNat, by omega⟩
    have hgv : x.give (k : Int) = x.setU k false := by unfold Sup.give; rw [if_pos h, Int.toNat_natCast]
    rw [hgv]
    have hk : k < 256 := by omega
    have hne : ((k : Int) != 0) = true := by simp; omega
    have hge : (decide ((0 : Int) ≤ (k : Int)) && decide ((k : Int) < 256)) = true := by simp; omega
    have HS := Lib.hid (fun w => isslot_any (k : Int) w)
    rw [hge] at HS
    have HK := Lib.hid hk
    have hki : (k : Int) < 256 := by omega
    clear hgv h hge hk
    go_enter Tryz.func86, Tryz.ntmps86
    go_wp2_with (first
      | (refine step_box rfl 2 rfl 59 (.tmp 0) rfl x.cs rfl ?_; intro g2 w2 hr2 hg2 hb2 hs2
         have R2 := Lib.hid hr2
         have HB2 := Lib.hid hb2
         have Q2 := Lib.hid (p := w.heap.size ≤ g2) (by rw [hg2.out]; exact Nat.le_refl _)
         clear hr2 hb2 hg2 hs2)
      | (refine step_alloc rfl 4 rfl 59 rfl _ hz0.out ?_; intro g4 w4 hr4 hg4 hb4 hs4
         have R4 := Lib.hid hr4
         have R24 := Lib.hid (R2.out.kept hb4)
         have HB4 := Lib.hid (below_nxt hb4 HB2.out)
         have N24 := Lib.hid (p := g2 < g4) (by rw [hg4.out]; exact R2.out.lt)
         clear hr4 hb4 hg4 hs4)
      | (go_at_call 112; refine (HS.out _).mono ?_; rintro e w' ⟨rfl, rfl⟩
         have f1 := R24.out.free (1 + k)
         have c1 : w4.cell? ⟨g2, 1 + k, none⟩ = some (.bool (x.u k)) := by rw [R24.out.cell, x.c_u HK.out])
      | (refine step_load rfl 14 rfl 59 (.tmp 2) rfl g2 rfl (x.setU k false).cs _ (Row.all (by have h := R24.out.put (1 + k) (.bool false); rw [x.set_u false HK.out] at h; exact h)) Tryz.underlying59 rfl (i1.out _) ?_)
      | (refine step_store rfl 59 (.tmp 4) (.tmp 14) rfl g4 (by rfl) _ sup0.cs (x.setU k false).cs (by rfl) (R4.out.far (p := ⟨g2, 1 + k, none⟩) (by have := N24.out; intro e; simp at e; omega) _) (by rw [Sup.cs_len, Sup.cs_len]) (i1.out _) (Sup.cs_one _) ?_; intro w9 hr9 hg9 hs9))
    refine bodyPost_ret (results_cell_row rfl _ _ g4 _ _ _ _ rfl hr9 Tryz.underlying59 rfl (by simpa using i1.out _)) rfl ?_
    exact ⟨rfl, below_own (HB4.out.setCell Q2.out _) hg9 (by have := N24.out; have := Q2.out; omega)⟩
  · have hgv : x.give z = x := by unfold Sup.give; rw [if_neg h]
    rw [hgv]
    by_cases h0 : z = 0
    · subst h0
      clear h hgv
      go_enter Tryz.func86, Tryz.ntmps86
      go_wp2_with (first
        | (refine step_box rfl 2 rfl 59 (.tmp 0) rfl x.cs rfl ?_; intro g2 w2 hr2 hg2 hb2 hs2
           have R2 := Lib.hid hr2
           have HB2 := Lib.hid hb2
           have Q2 := Lib.hid (p := w.heap.size ≤ g2) (by rw [hg2.out]; exact Nat.le_refl _)
           clear hr2 hb2 hg2 hs2)
        | (refine step_alloc rfl 4 rfl 59 rfl _ hz0.out ?_; intro g4 w4 hr4 hg4 hb4 hs4
           have R4 := Lib.hid hr4
           have R24 := Lib.hid (R2.out.kept hb4)
           have HB4 := Lib.hid (below_nxt hb4 HB2.out)
           have N24 := Lib.hid (p := g2 < g4) (by rw [hg4.out]; exact R2.out.lt)
           clear hr4 hb4 hg4 hs4)
        | (refine step_load rfl 14 rfl 59 (.tmp 2) rfl g2 rfl x.cs _ R24.out.all Tryz.underlying59 rfl (i1.out _) ?_)
        | (refine step_store rfl 59 (.tmp 4) (.tmp 14) rfl g4 (by rfl) _ sup0.cs x.cs (by rfl) R4.out (by rw [Sup.cs_len, Sup.cs_len]) (i1.out _) (Sup.cs_one _) ?_; intro w9 hr9 hg9 hs9))
      refine bodyPost_ret (results_cell_row rfl _ _ g4 _ _ _ _ rfl hr9 Tryz.underlying59 rfl (by simpa using i1.out _)) rfl ?_
      exact ⟨rfl, below_own HB4.out hg9 (by have := N24.out; have := Q2.out; omega)⟩
    · have hne : (z != 0) = true := by simpa using h0
      have hge : (decide ((0 : Int) ≤ z) && decide (z < 256)) = false := by
        rw [Bool.and_eq_false_iff]
        simp only [decide_eq_false_iff_not]
        omega
      have HS := Lib.hid (fun w => isslot_any z w)
      rw [hge] at HS
      clear h hgv hge h0
      go_enter Tryz.func86, Tryz.ntmps86
      go_wp2_with (first
        | (refine step_box rfl 2 rfl 59 (.tmp 0) rfl x.cs rfl ?_; intro g2 w2 hr2 hg2 hb2 hs2
           have R2 := Lib.hid hr2
           have HB2 := Lib.hid hb2
           have Q2 := Lib.hid (p := w.heap.size ≤ g2) (by rw [hg2.out]; exact Nat.le_refl _)
           clear hr2 hb2 hg2 hs2)
        | (refine step_alloc rfl 4 rfl 59 rfl _ hz0.out ?_; intro g4 w4 hr4 hg4 hb4 hs4
           have R4 := Lib.hid hr4
           have R24 := Lib.hid (R2.out.kept hb4)
           have HB4 := Lib.hid (below_nxt hb4 HB2.out)
           have N24 := Lib.hid (p := g2 < g4) (by rw [hg4.out]; exact R2.out.lt)
           clear hr4 hb4 hg4 hs4)
        | (go_at_call 112; refine (HS.out _).mono ?_; rintro e w' ⟨rfl, rfl⟩)
        | (refine step_load rfl 14 rfl 59 (.tmp 2) rfl g2 rfl x.cs _ R24.out.all Tryz.underlying59 rfl (i1.out _) ?_)
        | (refine step_store rfl 59 (.tmp 4) (.tmp 14) rfl g4 (by rfl) _ sup0.cs x.cs (by rfl) R4.out (by rw [Sup.cs_len, Sup.cs_len]) (i1.out _) (Sup.cs_one _) ?_; intro w9 hr9 hg9 hs9))
      refine bodyPost_ret (results_cell_row rfl _ _ g4 _ _ _ _ rfl hr9 Tryz.underlying59 rfl (by simpa using i1.out _)) rfl ?_
      exact ⟨rfl, below_own HB4.out hg9 (by have := N24.out; have := Q2.out; omega)⟩

/-- How many of the first places hold. -/
def cb (f : Nat → Bool) : Nat → Nat
  | 0 => 0
  | n + 1 => cb f n + if f n then 1 else 0
theorem cb_le (f : Nat → Bool) : ∀ n, cb f n ≤ n
  | 0 => Nat.le_refl _
  | n + 1 => by have := cb_le f n; unfold cb; split <;> omega
def Sup.has (x : Sup) (j : Nat) : Bool := x.i (j + 1) != 0
theorem spare_ok (x : Sup) (k : Nat) (hk : k < 64) (h0 : x.i (k + 1) = 0) (hb : ∀ j, j < k → x.i (j + 1) ≠ 0) (w : World) : Calls Tryz.prog 71 #[.agg x.cs.toArray] w fun e w' => e = .returned (.tuple #[.int .i64 ((k + 1 : Nat) : Int), .bool true]) ∧ Below w.heap.size w w' := by
  have HK := Lib.hid hk
  have H0 := Lib.hid h0
  have HNB := Lib.hid hb
  clear hk h0 hb
  go_enter Tryz.func71, Tryz.ntmps71
  go_wp2_with (refine step_box rfl 1 rfl 59 (.tmp 0) rfl x.cs rfl ?_; intro g2 w2 hr2 hg2 hb2 hs2
               have R2 := Lib.hid hr2
               have HB2 := Lib.hid hb2
               have Q2 := Lib.hid (p := w.heap.size ≤ g2) (by rw [hg2.out]; exact Nat.le_refl _)
               clear hr2 hb2 hg2 hs2)
  go_loopw [9] (fun y wr => ∃ j : Nat, j ≤ k ∧ y = .int .i64 (j : Int) ∧ Hid (Row wr g2 59 x.cs) ∧ Hid (Below w.heap.size w wr)) (fun y _ => 64 - (intOf y).toNat)
  case atStart => exact ⟨0, by omega, rfl, R2, HB2⟩
  case round =>
    clear R2 HB2
    obtain ⟨j, hj, rfl, HR2, HB⟩ := hrel
    have hji : (j : Int) < 64 := by have := HK.out; omega
    have hw : IntKind.i64.wrap ((j : Int) + 1) = (j : Int) + 1 := by rw [IntKind.wrap_i64]; omega
    obtain ⟨v, hv⟩ : ∃ v, x.i (j + 1) = v := ⟨_, rfl⟩
    have c1 : wr.cell? ⟨g2, 258 + j, none⟩ = some (.int .i64 v) := by rw [HR2.out.cell, show 258 + j = 257 + (j + 1) by omega, x.c_i (by omega), hv]
    by_cases e : j = k
    · subst e
      have hv0 : v = 0 := by rw [← hv]; exact H0.out
      subst hv0
      clear hj hv
      go_wp2
      go_ret2
      exact ⟨by go_num, HB.out⟩
    · have hjk : j < k := by omega
      have hv0 : (v == 0) = false := by rw [← hv]; simpa using HNB.out j hjk
      have HJ := Lib.hid hjk
      clear hj e hjk hv
      go_wp2
      go_roundw
      case rel => exact ⟨j + 1, by have := HJ.out; omega, by go_num, HR2, HB⟩
      case measure => simp [intOf]; omega
theorem spare_no (x : Sup) (hb : ∀ j, j < 64 → x.i (j + 1) ≠ 0) (w : World) : Calls Tryz.prog 71 #[.agg x.cs.toArray] w fun e w' => e = .returned (.tuple #[.int .i64 0, .bool false]) ∧ Below w.heap.size w w' := by
  have HNB := Lib.hid hb
  clear hb
  go_enter Tryz.func71, Tryz.ntmps71
  go_wp2_with (refine step_box rfl 1 rfl 59 (.tmp 0) rfl x.cs rfl ?_; intro g2 w2 hr2 hg2 hb2 hs2
               have R2 := Lib.hid hr2
               have HB2 := Lib.hid hb2
               have Q2 := Lib.hid (p := w.heap.size ≤ g2) (by rw [hg2.out]; exact Nat.le_refl _)
               clear hr2 hb2 hg2 hs2)
  go_loopw [9] (fun y wr => ∃ j : Nat, j ≤ 64 ∧ y = .int .i64 (j : Int) ∧ Hid (Row wr g2 59 x.cs) ∧ Hid (Below w.heap.size w wr)) (fun y _ => 64 - (intOf y).toNat)
  case atStart => exact ⟨0, by omega, rfl, R2, HB2⟩
  case round =>
    clear R2 HB2
    obtain ⟨j, hj, rfl, HR2, HB⟩ := hrel
    by_cases h : j < 64
    · have hji : (j : Int) < 64 := by omega
      have hw : IntKind.i64.wrap ((j : Int) + 1) = (j : Int) + 1 := by rw [IntKind.wrap_i64]; omega
      obtain ⟨v, hv⟩ : ∃ v, x.i (j + 1) = v := ⟨_, rfl⟩
      have c1 : wr.cell? ⟨g2, 258 + j, none⟩ = some (.int .i64 v) := by rw [HR2.out.cell, show 258 + j = 257 + (j + 1) by omega, x.c_i (by omega), hv]
      have hv0 : (v == 0) = false := by rw [← hv]; simpa using HNB.out j h
      clear hv
      go_wp2
      go_roundw
      case rel => exact ⟨j + 1, by omega, by go_num, HR2, HB⟩
      case measure => simp [intOf]; omega
    · obtain rfl : j = 64 := by omega
      go_wp2
      go_ret2
      exact ⟨rfl, HB.out⟩
end Go.Proofs.YtfbfeplegdpemaaGreat
/- Package grant: whether a super may be. No conditions. -/
set_option linter.unusedVariables false
set_option maxRecDepth 20000
namespace Go.Proofs.YtfbfeplegdpemaaGreat
open Go.RowKit

/-- An inode's slot is one of its own. -/
def Sup.OkA (x : Sup) (j : Nat) : Prop := if x.i j = 0 then x.o j = false else (0 ≤ x.i j ∧ x.i j < 256 ∧ x.u (x.i j).toNat = true ∧ ∀ k, k < j → x.i k ≠ x.i j)
def Sup.May (x : Sup) : Prop := x.s ≠ 0 ∧ x.u 0 = true ∧ x.i 0 = 0 ∧ ∀ j, j < 65 → x.OkA j
/-- Which slots the first inodes have. -/
def Sup.had (x : Sup) : Nat → Nat → Bool
  | 0 => fun _ => false
  | j + 1 => if x.i j = 0 then x.had j else at1 (x.had j) (x.i j).toNat true
theorem Sup.had_iff (x : Sup) : ∀ j, (∀ k, k < j → x.OkA k) → ∀ s : Nat, s ≠ 0 → (x.had j s = true ↔ ∃ k, k < j ∧ x.i k = (s : Int)) := by
  intro j
  induction j with
  | zero => intro _ s _; exact Iff.intro (fun h => by cases h) (fun h => by obtain ⟨k, hk, _⟩ := h; omega)
  | succ j ih =>
    intro hok s hs
    have ih := ih (fun k hk => hok k (by omega)) s hs
    have hj := hok j (by omega)
    unfold Sup.OkA at hj
    show (if x.i j = 0 then x.had j else at1 (x.had j) (x.i j).toNat true) s = true ↔ _
    by_cases h0 : x.i j = 0
    · rw [if_pos h0, ih]
      constructor
      · rintro ⟨k, hk, e⟩
        exact ⟨k, by omega, e⟩
      · rintro ⟨k, hk, e⟩
        refine ⟨k, ?_, e⟩
        rcases Nat.lt_or_ge k j with h | h
        · exact h
        · obtain rfl : k = j := by omega
          omega
    · rw [if_neg h0] at hj
      rw [if_neg h0]
      by_cases e : s = (x.i j).toNat
      · subst e
        rw [at1_same]
        exact ⟨fun _ => ⟨j, by omega, by omega⟩, fun _ => rfl⟩
      · rw [at1_other _ _ e, ih]
        constructor
        · rintro ⟨k, hk, e⟩
          exact ⟨k, by omega, e⟩
        · rintro ⟨k, hk, e2⟩
          refine ⟨k, ?_, e2⟩
          rcases Nat.lt_or_ge k j with h | h
          · exact h
          · obtain rfl : k = j := by omega
            omega
theorem zero_had (w : World) : (zeroValue 55).run Tryz.prog w = .ok (.agg (bls 256 fun _ => false).toArray) w := by kernel_rfl
theorem set_bls (f : Nat → Bool) {n j : Nat} (b : Bool) (h : j < n) : (bls n f).set j (.bool b) = bls n (at1 f j b) := by
  apply List.ext_getElem?
  intro k
  rw [List.getElem?_set, bls_len]
  by_cases hk : j = k
  · subst hk
    rw [if_pos rfl, if_pos h, bls_get _ h, at1_same]
  · rw [if_neg hk]
    by_cases h2 : k < n
    · rw [bls_get _ h2, bls_get _ h2, at1_other _ _ (by omega)]
    · rw [List.getElem?_eq_none (by rw [bls_len]; omega), List.getElem?_eq_none (by rw [bls_len]; omega)]
theorem run_index_inl (f : Nat → Int) (k : Nat) (hk : k < 65) (w : World) : (Instr.index 56 (.agg (inl 65 f).toArray) (.int .i64 k)).run Tryz.prog w = .ok (.int .i64 (f k)) w := by
  have hg := inl_get f hk
  have hs := info_int
  cases hq : Tryz.prog.info? 3 with
  | none => simp [hq] at hs
  | some i =>
    have hi : i.size = 1 := by simpa [hq] using hs
    simp [Instr.index, asIntOf, run_underlying Tryz.underlying56, run_underlying Tryz.underlying3, sizeOf, typeInfo, hq, hi, hk, Go.part, isAgg, hg]
theorem Sup.i_range {w : World} {g : Nat} {t : TypeId} {x : Sup} (h : Row w g t x.cs) : w.rangeAt g 257 (inl 65 x.i) := by
  intro j v hv
  obtain ⟨hj, _⟩ := List.getElem?_eq_some_iff.1 hv
  rw [inl_len] at hj
  rw [h.cell, x.c_i hj, ← inl_get x.i hj]
  exact hv
set_option maxHeartbeats 4000000 in
theorem apart_gen (x : Sup) (b : Bool) (n : Nat) (hn : n ≤ 65) (hok : ∀ j, j < n → x.OkA j) (hb : (b = true ∧ n = 65) ∨ (b = false ∧ n < 65 ∧ ¬ x.OkA n)) (w : World) : Calls Tryz.prog 114 #[.agg x.cs.toArray] w fun e w' => e = .returned (.bool b) ∧ Below w.heap.size w w' := by
  have HN := Lib.hid hn
  have HOK := Lib.hid hok
  have HBB := Lib.hid hb
  obtain ⟨L, hL⟩ : ∃ L, inl 65 x.i = L := ⟨_, rfl⟩
  have HLL := Lib.hid (p := (Tryz.prog.info? 56).map (·.size) = some L.length) (by rw [← hL, inl_len]; exact info_i)
  have HLR := Lib.hid (p := ∀ (w : World) (g : Nat), Row w g 59 x.cs → w.rangeAt g 257 L) (fun w g h => by rw [← hL]; exact Sup.i_range h)
  have HIX := Lib.hid (p := ∀ (k : Nat) (v : Int), k < 65 → x.i k = v → ∀ w, (Instr.index 56 (.agg L.toArray) (.int .i64 k)).run Tryz.prog w = .ok (.int .i64 v) w) (fun k v hk hv w => by rw [← hL, ← hv]; exact run_index_inl x.i k hk w)
  have HZH := Lib.hid zero_had
  clear hn hok hb hL
  go_enter Tryz.func114, Tryz.ntmps114
  go_wp2_with (first
    | (refine step_box rfl 1 rfl 59 (.tmp 0) rfl x.cs rfl ?_; intro g2 w2 hr2 hg2 hb2 hs2
       have R2 := Lib.hid hr2
       have HB2 := Lib.hid hb2
       have Q2 := Lib.hid (p := w.heap.size ≤ g2) (by rw [hg2.out]; exact Nat.le_refl _)
       clear hr2 hb2 hg2 hs2)
    | (refine step_alloc rfl 3 rfl 55 rfl _ HZH.out ?_; intro g3 w3 hr3 hg3 hb3 hs3
       have R3 := Lib.hid hr3
       have R23 := Lib.hid (R2.out.kept hb3)
       have HB3 := Lib.hid (below_nxt hb3 HB2.out)
       have N23 := Lib.hid (p := g2 < g3) (by rw [hg3.out]; exact R2.out.lt)
       clear hr3 hb3 hg3 hs3)
    | (refine wpList_load_mid rfl 56 (.tmp 6) rfl g2 257 (by rfl) L _ (HLR.out _ _ R23.out) Tryz.underlying56 rfl HLL.out ?_))
  go_loopw [8] (fun y wr => ∃ j : Nat, j ≤ n ∧ y = .int .i64 (j : Int) ∧ Hid (Row wr g2 59 x.cs) ∧ Hid (Row wr g3 55 (bls 256 (x.had j))) ∧ Hid (Below w.heap.size w wr)) (fun y _ => 65 - (intOf y).toNat)
  case atStart => exact ⟨0, by omega, rfl, R23, R3, HB3⟩
  case round =>
    clear R2 HB2 R23 R3 HB3
    obtain ⟨j, hj, rfl, HR2, HR3, HB⟩ := hrel
    have HJ := Lib.hid hj
    by_cases hj65 : j < 65
    · have hji : (j : Int) < 65 := by omega
      have hw : IntKind.i64.wrap ((j : Int) + 1) = (j : Int) + 1 := by rw [IntKind.wrap_i64]; omega
      obtain ⟨v, hv⟩ : ∃ v, x.i j = v := ⟨_, rfl⟩
      have hix := HIX.out j v hj65 hv
      have HV := Lib.hid hv
      have H65 := Lib.hid hj65
      have HSL := Lib.hid (fun w => isslot_any v w)
      obtain ⟨ob, hob⟩ : ∃ ob, x.o j = ob := ⟨_, rfl⟩
      have c3 : wr.cell? ⟨g2, 322 + j, none⟩ = some (.bool ob) := by rw [HR2.out.cell, x.c_o hj65, hob]
      -- where this one is as it should be, the next one comes; else the answer is false
      have hnext : Hid (x.OkA j → j + 1 ≤ n) := Lib.hid fun h => by
        rcases HBB.out with ⟨_, e⟩ | ⟨_, e, e2⟩
        · omega
        · rcases Nat.lt_or_ge j n with h' | h'
          · omega
          · obtain rfl : j = n := by omega
            exact absurd h e2
      have hbad : Hid (¬ x.OkA j → b = false) := Lib.hid fun h => by
        rcases HBB.out with ⟨_, e⟩ | ⟨e, _, _⟩
        · exact absurd (HOK.out j (by omega)) h
        · exact e
      clear hj hj65 hv
      by_cases h0 : v = 0
      · subst h0
        have hhad : Hid (x.had (j + 1) = x.had j) := Lib.hid (by show (if x.i j = 0 then _ else _) = _; rw [if_pos HV.out])
        cases ob
        · have hokj := hnext.out (by unfold Sup.OkA; rw [if_pos HV.out]; exact hob)
          clear hob
          go_wp2
          go_roundw
          case rel => exact ⟨j + 1, hokj, by go_num, HR2, by rw [hhad.out]; exact HR3, HB⟩
          case measure => have := H65.out; simp [intOf]; omega
        · have hbf := hbad.out (by unfold Sup.OkA; rw [if_pos HV.out, hob]; decide)
          subst hbf
          clear hob
          go_wp2
          go_ret
          exact ⟨rfl, HB.out⟩
      · have h0b : (v == 0) = false := by simpa using h0
        clear c3
        by_cases hr : 0 ≤ v ∧ v < 256
        · obtain ⟨m, rfl⟩ : ∃ m : Nat, v = (m : Int) := ⟨v.toNat, by omega⟩
          have hm : m < 256 := by omega
          have hm0 : m ≠ 0 := by omega
          have hmi : (m : Int) < 256 := by omega
          have hge : (decide ((0 : Int) ≤ (m : Int)) && decide ((m : Int) < 256)) = true := by simp; omega
          rw [hge] at HSL
          have HM := Lib.hid hm
          have HIFF := Lib.hid (x.had_iff j (fun k hk => HOK.out k (by have := HJ.out; omega)) m hm0)
          obtain ⟨ub, hub⟩ : ∃ ub, x.u m = ub := ⟨_, rfl⟩
          have c1 : wr.cell? ⟨g2, 1 + m, none⟩ = some (.bool ub) := by rw [HR2.out.cell, x.c_u hm, hub]
          have HNZ := Lib.hid (p := x.i j ≠ 0) (by rw [HV.out]; exact h0)
          clear hge hm hr hob h0
          cases ub
          · have hbf := hbad.out (by
              unfold Sup.OkA
              rw [if_neg HNZ.out, HV.out]
              rintro ⟨_, _, h, _⟩
              rw [Int.toNat_natCast, hub] at h
              cases h)
            subst hbf
            clear hub hm0
            go_wp2_with (go_at_call 112; refine (HSL.out _).mono ?_; rintro e w' ⟨rfl, rfl⟩)
            go_ret
            exact ⟨rfl, HB.out⟩
          · obtain ⟨hd, hhd⟩ : ∃ hd, x.had j m = hd := ⟨_, rfl⟩
            have c2 : wr.cell? ⟨g3, m, none⟩ = some (.bool hd) := by rw [HR3.out.cell, bls_get _ HM.out, hhd]
            cases hd
            · have hok : x.OkA j := by
                unfold Sup.OkA
                rw [if_neg HNZ.out, HV.out]
                refine ⟨by omega, hmi, by rw [Int.toNat_natCast]; exact hub, fun k hk e => ?_⟩
                have h := HIFF.out.2 ⟨k, hk, e⟩
                rw [hhd] at h
                cases h
              have hokj := hnext.out hok
              have hhad : Hid (x.had (j + 1) = at1 (x.had j) m true) := Lib.hid (by show (if x.i j = 0 then _ else _) = _; rw [if_neg HNZ.out, HV.out, Int.toNat_natCast])
              have f2 := HR3.out.free m
              clear hub hhd hm0 hok
              go_wp2_with (go_at_call 112; refine (HSL.out _).mono ?_; rintro e w' ⟨rfl, rfl⟩)
              go_roundw
              case rel => exact ⟨j + 1, hokj, by go_num, Lib.hid (HR2.out.far (p := ⟨g3, m, none⟩) (by have := N23.out; intro e; simp at e; omega) _), Lib.hid (by rw [hhad.out, ← set_bls _ _ HM.out]; exact HR3.out.put _ _), Lib.hid (HB.out.setCell (show w.heap.size ≤ g3 by have := N23.out; have := Q2.out; omega) _)⟩
              case measure => have := H65.out; simp [intOf]; omega
            · have hbf := hbad.out (by
                unfold Sup.OkA
                rw [if_neg HNZ.out, HV.out]
                rintro ⟨_, _, _, h⟩
                obtain ⟨k, hk, e⟩ := HIFF.out.1 hhd
                exact h k hk e)
              subst hbf
              clear hub hhd hm0
              go_wp2_with (go_at_call 112; refine (HSL.out _).mono ?_; rintro e w' ⟨rfl, rfl⟩)
              go_ret
              exact ⟨rfl, HB.out⟩
        · have hge : (decide ((0 : Int) ≤ v) && decide (v < 256)) = false := by
            rw [Bool.and_eq_false_iff]
            simp only [decide_eq_false_iff_not]
            omega
          rw [hge] at HSL
          have hbf := hbad.out (by
            unfold Sup.OkA
            rw [HV.out, if_neg h0]
            rintro ⟨h1, h2, _⟩
            exact hr ⟨h1, h2⟩)
          subst hbf
          clear hge hr hob h0
          go_wp2_with (go_at_call 112; refine (HSL.out _).mono ?_; rintro e w' ⟨rfl, rfl⟩)
          go_ret
          exact ⟨rfl, HB.out⟩
    · have hj65' : j = 65 := by have := HN.out; omega
      have hbt : b = true := by
        rcases HBB.out with ⟨e, _⟩ | ⟨_, e, _⟩
        · exact e
        · omega
      subst hj65' hbt
      clear hj hj65
      go_wp2
      go_ret
      exact ⟨rfl, HB.out⟩
theorem least_bad (p : Nat → Prop) (N : Nat) : (∀ j, j < N → p j) ∨ ∃ n, n < N ∧ ¬ p n ∧ ∀ j, j < n → p j := by
  induction N with
  | zero => exact .inl fun j hj => by omega
  | succ N ih =>
    rcases ih with h | ⟨n, h1, h2, h3⟩
    · by_cases hp : p N
      · exact .inl fun j hj => by
          rcases Nat.lt_or_ge j N with h' | h'
          · exact h j h'
          · obtain rfl : j = N := by omega
            exact hp
      · exact .inr ⟨N, by omega, hp, h⟩
    · exact .inr ⟨n, by omega, h2, h3⟩
theorem apart_ok (x : Sup) (h : ∀ j, j < 65 → x.OkA j) (w : World) : Calls Tryz.prog 114 #[.agg x.cs.toArray] w fun e w' => e = .returned (.bool true) ∧ Below w.heap.size w w' := apart_gen x true 65 (Nat.le_refl _) h (.inl ⟨rfl, rfl⟩) w
theorem apart_no (x : Sup) (h : ¬ ∀ j, j < 65 → x.OkA j) (w : World) : Calls Tryz.prog 114 #[.agg x.cs.toArray] w fun e w' => e = .returned (.bool false) ∧ Below w.heap.size w w' := by
  rcases least_bad x.OkA 65 with h' | ⟨n, h1, h2, h3⟩
  · exact absurd h' h
  · exact apart_gen x false n (by omega) h3 (.inr ⟨rfl, h1, h2⟩) w
set_option maxHeartbeats 1000000 in
theorem maybe_any (x : Sup) (b : Bool) (hb : b = true ↔ x.May) (w : World) : Calls Tryz.prog 90 #[.agg x.cs.toArray] w fun e w' => e = .returned (.bool b) ∧ Below w.heap.size w w' := by
  have i1 := Lib.hid (fun x : Sup => info_cs x)
  obtain ⟨s, hs⟩ : ∃ s, x.s = s := ⟨_, rfl⟩
  obtain ⟨u, hu⟩ : ∃ u, x.u 0 = u := ⟨_, rfl⟩
  obtain ⟨v, hv⟩ : ∃ v, x.i 0 = v := ⟨_, rfl⟩
  have C0 := Lib.hid (p := ∀ (w : World) (g : Nat), Row w g 59 x.cs → w.cell? ⟨g, 0, none⟩ = some (.int .u64 (s : Int)) ∧ w.cell? ⟨g, 1, none⟩ = some (.bool u) ∧ w.cell? ⟨g, 257, none⟩ = some (.int .i64 v)) (fun w g h => ⟨by rw [h.cell, x.c_s, hs], by rw [h.cell, show 1 = 1 + 0 from rfl, x.c_u (by decide), hu], by rw [h.cell, show 257 = 257 + 0 from rfl, x.c_i (by decide), hv]⟩)
  have HBB := Lib.hid hb
  have HSS := Lib.hid hs
  have HUU := Lib.hid hu
  have HVV := Lib.hid hv
  clear hb hs hu hv
  by_cases hs0 : s = 0
  · obtain rfl : b = false := by
      cases b
      · rfl
      · exact absurd (HSS.out.trans hs0) (HBB.out.1 rfl).1
    subst hs0
    go_enter Tryz.func90, Tryz.ntmps90
    go_wp2_with (first
      | go_skip
      | go_big_skip
      | (refine step_box rfl 1 rfl 59 (.tmp 0) rfl x.cs rfl ?_; intro g2 w2 hr2 hg2 hb2 hs2
         obtain ⟨c0, c1, c2⟩ := C0.out _ _ hr2
         have R2 := Lib.hid hr2
         have HB2 := Lib.hid hb2
         have Q2 := Lib.hid (p := w.heap.size ≤ g2) (by rw [hg2.out]; exact Nat.le_refl _)
         clear hr2 hb2 hg2 hs2))
    go_ret
    exact ⟨rfl, HB2.out⟩
  · have hs0' : ((s : Int) != 0) = true := by simp; omega
    cases u
    · obtain rfl : b = false := by
        cases b
        · rfl
        · have := (HBB.out.1 rfl).2.1
          rw [HUU.out] at this
          cases this
      clear hs0
      go_enter Tryz.func90, Tryz.ntmps90
      go_wp2_with (first
        | go_skip
        | go_big_skip
        | (refine step_box rfl 1 rfl 59 (.tmp 0) rfl x.cs rfl ?_; intro g2 w2 hr2 hg2 hb2 hs2
           obtain ⟨c0, c1, c2⟩ := C0.out _ _ hr2
           have R2 := Lib.hid hr2
           have HB2 := Lib.hid hb2
           have Q2 := Lib.hid (p := w.heap.size ≤ g2) (by rw [hg2.out]; exact Nat.le_refl _)
           clear hr2 hb2 hg2 hs2))
      go_ret
      exact ⟨rfl, HB2.out⟩
    · by_cases hv0 : v = 0
      · subst hv0
        by_cases ha : ∀ j, j < 65 → x.OkA j
        · obtain rfl : b = true := HBB.out.2 ⟨by rw [HSS.out]; exact hs0, HUU.out, HVV.out, ha⟩
          have HAP := Lib.hid (fun w => apart_ok x ha w)
          clear hs0 ha
          go_enter Tryz.func90, Tryz.ntmps90
          go_wp2_with (first
            | go_skip
            | go_big_skip
            | (refine step_box rfl 1 rfl 59 (.tmp 0) rfl x.cs rfl ?_; intro g2 w2 hr2 hg2 hb2 hs2
               obtain ⟨c0, c1, c2⟩ := C0.out _ _ hr2
               have R2 := Lib.hid hr2
               have HB2 := Lib.hid hb2
               have Q2 := Lib.hid (p := w.heap.size ≤ g2) (by rw [hg2.out]; exact Nat.le_refl _)
               clear hr2 hb2 hg2 hs2)
            | (refine step_load_g (by rfl) 18 rfl 59 (.tmp 1) rfl g2 rfl x.cs _ R2.out.all Tryz.underlying59 rfl (i1.out _) ?_)
            | (go_at_call 114; refine (HAP.out _).mono ?_; rintro e w5 ⟨rfl, hb5⟩
               have HB5 := Lib.hid (below_nxt hb5 HB2.out)
               clear hb5))
          go_ret
          exact ⟨rfl, HB5.out⟩
        · obtain rfl : b = false := by
            cases b
            · rfl
            · exact absurd (HBB.out.1 rfl).2.2.2 ha
          have HAP := Lib.hid (fun w => apart_no x ha w)
          clear hs0 ha
          go_enter Tryz.func90, Tryz.ntmps90
          go_wp2_with (first
            | go_skip
            | go_big_skip
            | (refine step_box rfl 1 rfl 59 (.tmp 0) rfl x.cs rfl ?_; intro g2 w2 hr2 hg2 hb2 hs2
               obtain ⟨c0, c1, c2⟩ := C0.out _ _ hr2
               have R2 := Lib.hid hr2
               have HB2 := Lib.hid hb2
               have Q2 := Lib.hid (p := w.heap.size ≤ g2) (by rw [hg2.out]; exact Nat.le_refl _)
               clear hr2 hb2 hg2 hs2)
            | (refine step_load_g (by rfl) 18 rfl 59 (.tmp 1) rfl g2 rfl x.cs _ R2.out.all Tryz.underlying59 rfl (i1.out _) ?_)
            | (go_at_call 114; refine (HAP.out _).mono ?_; rintro e w5 ⟨rfl, hb5⟩
               have HB5 := Lib.hid (below_nxt hb5 HB2.out)
               clear hb5))
          go_ret
          exact ⟨rfl, HB5.out⟩
      · obtain rfl : b = false := by
          cases b
          · rfl
          · exact absurd (HVV.out.symm.trans (HBB.out.1 rfl).2.2.1) hv0
        have hv0' : (v == 0) = false := by simpa using hv0
        clear hs0 hv0
        go_enter Tryz.func90, Tryz.ntmps90
        go_wp2_with (first
          | go_skip
          | go_big_skip
          | (refine step_box rfl 1 rfl 59 (.tmp 0) rfl x.cs rfl ?_; intro g2 w2 hr2 hg2 hb2 hs2
             obtain ⟨c0, c1, c2⟩ := C0.out _ _ hr2
             have R2 := Lib.hid hr2
             have HB2 := Lib.hid hb2
             have Q2 := Lib.hid (p := w.heap.size ≤ g2) (by rw [hg2.out]; exact Nat.le_refl _)
             clear hr2 hb2 hg2 hs2))
        go_ret
        exact ⟨rfl, HB2.out⟩
end Go.Proofs.YtfbfeplegdpemaaGreat
