/- Package grant: whether a super may be. No conditions. -/
import Derived.Test.YtfbfeplegdpemaaGreatMgGc
import Derived.BigGuard
import Derived.Test.YtfbfeplegdpemaaGreatChecked
import Derived.Test.YtfbfeplegdpemaaGreatMgMem
import Derived.WalkKit
import Derived.WalkMore
import Derived.WalkSpells
import Derived.WalkLawsBesides
import Derived.Outline
set_option linter.unusedVariables false
set_option maxRecDepth 20000
namespace Go.Proofs.YtfbfeplegdpemaaGreat
open Go.RowKit

/-- An inode's slot is one of its own. -/
def Sup.OkA (x : Sup) (j : Nat) : Prop := if x.i j = 0 then x.o j = false else (0 ≤ x.i j ∧ x.i j < 256 ∧ x.u (x.i j).toNat = true ∧ ∀ k, k < j → x.i k ≠ x.i j)
def Sup.May (x : Sup) : Prop := x.s ≠ 0 ∧ x.u 0 = true ∧ x.i 0 = 0 ∧ ∀ j, j < 65 → x.OkA j
/-- Which slots the first inodes have. -/
def Sup.had (x : Sup) : Nat → Nat → Bool
  | 0 => fun _ => false
  | j + 1 => if x.i j = 0 then x.had j else at1 (x.had j) (x.i j).toNat true
theorem Sup.had_iff (x : Sup) : ∀ j, (∀ k, k < j → x.OkA k) → ∀ s : Nat, s ≠ 0 → (x.had j s = true ↔ ∃ k, k < j ∧ x.i k = (s : Int)) := by
  intro j
  induction j with
  | zero => intro _ s _; exact Iff.intro (fun h => by cases h) (fun h => by obtain ⟨k, hk, _⟩ := h; omega)
  | succ j ih =>
    intro hok s hs
    have ih := ih (fun k hk => hok k (by omega)) s hs
    have hj := hok j (by omega)
    unfold Sup.OkA at hj
    show (if x.i j = 0 then x.had j else at1 (x.had j) (x.i j).toNat true) s = true ↔ _
    by_cases h0 : x.i j = 0
    · rw [if_pos h0, ih]
      constructor
      · rintro ⟨k, hk, e⟩
        exact ⟨k, by omega, e⟩
      · rintro ⟨k, hk, e⟩
        refine ⟨k, ?_, e⟩
        rcases Nat.lt_or_ge k j with h | h
        · exact h
        · obtain rfl : k = j := by omega
          omega
    · rw [if_neg h0] at hj
      rw [if_neg h0]
      by_cases e : s = (x.i j).toNat
      · subst e
        rw [at1_same]
        exact ⟨fun _ => ⟨j, by omega, by omega⟩, fun _ => rfl⟩
      · rw [at1_other _ _ e, ih]
        constructor
        · rintro ⟨k, hk, e⟩
          exact ⟨k, by omega, e⟩
        · rintro ⟨k, hk, e2⟩
          refine ⟨k, ?_, e2⟩
          rcases Nat.lt_or_ge k j with h | h
          · exact h
          · obtain rfl : k = j := by omega
            omega
theorem zero_had (w : World) : (zeroValue 55).run Tryz.prog w = .ok (.agg (bls 256 fun _ => false).toArray) w := by kernel_rfl
theorem set_bls (f : Nat → Bool) {n j : Nat} (b : Bool) (h : j < n) : (bls n f).set j (.bool b) = bls n (at1 f j b) := by
  apply List.ext_getElem?
  intro k
  rw [List.getElem?_set, bls_len]
  by_cases hk : j = k
  · subst hk
    rw [if_pos rfl, if_pos h, bls_get _ h, at1_same]
  · rw [if_neg hk]
    by_cases h2 : k < n
    · rw [bls_get _ h2, bls_get _ h2, at1_other _ _ (by omega)]
    · rw [List.getElem?_eq_none (by rw [bls_len]; omega), List.getElem?_eq_none (by rw [bls_len]; omega)]
theorem run_index_inl (f : Nat → Int) (k : Nat) (hk : k < 65) (w : World) : (Instr.index 56 (.agg (inl 65 f).toArray) (.int .i64 k)).run Tryz.prog w = .ok (.int .i64 (f k)) w := by
  have hg := inl_get f hk
  have hs := info_int
  cases hq : Tryz.prog.info? 3 with
  | none => simp [hq] at hs
  | some i =>
    have hi : i.size = 1 := by simpa [hq] using hs
    simp [Instr.index, asIntOf, run_underlying Tryz.underlying56, run_underlying Tryz.underlying3, sizeOf, typeInfo, hq, hi, hk, Go.part, isAgg, hg]
theorem Sup.i_range {w : World} {g : Nat} {t : TypeId} {x : Sup} (h : Row w g t x.cs) : w.rangeAt g 257 (inl 65 x.i) := by
  intro j v hv
  obtain ⟨hj, _⟩ := List.getElem?_eq_some_iff.1 hv
  rw [inl_len] at hj
  rw [h.cell, x.c_i hj, ← inl_get x.i hj]
  exact hv
set_option maxHeartbeats 4000000 in
theorem apart_gen (x : Sup) (b : Bool) (n : Nat) (hn : n ≤ 65) (hok : ∀ j, j < n → x.OkA j) (hb : (b = true ∧ n = 65) ∨ (b = false ∧ n < 65 ∧ ¬ x.OkA n)) (w : World) : Calls Tryz.prog 114 #[.agg x.cs.toArray] w fun e w' => e = .returned (.bool b) ∧ Below w.heap.size w w' := by
  have HN := Lib.hid hn
  have HOK := Lib.hid hok
  have HBB := Lib.hid hb
  obtain ⟨L, hL⟩ : ∃ L, inl 65 x.i = L := ⟨_, rfl⟩
  have HLL := Lib.hid (p := (Tryz.prog.info? 56).map (·.size) = some L.length) (by rw [← hL, inl_len]; exact info_i)
  have HLR := Lib.hid (p := ∀ (w : World) (g : Nat), Row w g 59 x.cs → w.rangeAt g 257 L) (fun w g h => by rw [← hL]; exact Sup.i_range h)
  have HIX := Lib.hid (p := ∀ (k : Nat) (v : Int), k < 65 → x.i k = v → ∀ w, (Instr.index 56 (.agg L.toArray) (.int .i64 k)).run Tryz.prog w = .ok (.int .i64 v) w) (fun k v hk hv w => by rw [← hL, ← hv]; exact run_index_inl x.i k hk w)
  have HZH := Lib.hid zero_had
  clear hn hok hb hL
  go_enter Tryz.func114, Tryz.ntmps114
  go_wp2_with (first
    | (refine step_box rfl 1 rfl 59 (.tmp 0) rfl x.cs rfl ?_; intro g2 w2 hr2 hg2 hb2 hs2
       have R2 := Lib.hid hr2
       have HB2 := Lib.hid hb2
       have Q2 := Lib.hid (p := w.heap.size ≤ g2) (by rw [hg2.out]; exact Nat.le_refl _)
       clear hr2 hb2 hg2 hs2)
    | (refine step_alloc rfl 3 rfl 55 rfl _ HZH.out ?_; intro g3 w3 hr3 hg3 hb3 hs3
       have R3 := Lib.hid hr3
       have R23 := Lib.hid (R2.out.kept hb3)
       have HB3 := Lib.hid (below_nxt hb3 HB2.out)
       have N23 := Lib.hid (p := g2 < g3) (by rw [hg3.out]; exact R2.out.lt)
       clear hr3 hb3 hg3 hs3)
    | (refine wpList_load_mid rfl 56 (.tmp 6) rfl g2 257 (by rfl) L _ (HLR.out _ _ R23.out) Tryz.underlying56 rfl HLL.out ?_))
  go_loopw [8] (fun y wr => ∃ j : Nat, j ≤ n ∧ y = .int .i64 (j : Int) ∧ Hid (Row wr g2 59 x.cs) ∧ Hid (Row wr g3 55 (bls 256 (x.had j))) ∧ Hid (Below w.heap.size w wr)) (fun y _ => 65 - (intOf y).toNat)
  case atStart => exact ⟨0, by omega, rfl, R23, R3, HB3⟩
  case round =>
    clear R2 HB2 R23 R3 HB3
    obtain ⟨j, hj, rfl, HR2, HR3, HB⟩ := hrel
    have HJ := Lib.hid hj
    by_cases hj65 : j < 65
    · have hji : (j : Int) < 65 := by omega
      have hw : IntKind.i64.wrap ((j : Int) + 1) = (j : Int) + 1 := by rw [IntKind.wrap_i64]; omega
      obtain ⟨v, hv⟩ : ∃ v, x.i j = v := ⟨_, rfl⟩
      have hix := HIX.out j v hj65 hv
      have HV := Lib.hid hv
      have H65 := Lib.hid hj65
      have HSL := Lib.hid (fun w => isslot_any v w)
      obtain ⟨ob, hob⟩ : ∃ ob, x.o j = ob := ⟨_, rfl⟩
      have c3 : wr.cell? ⟨g2, 322 + j, none⟩ = some (.bool ob) := by rw [HR2.out.cell, x.c_o hj65, hob]
      -- where this one is as it should be, the next one comes; else the answer is false
      have hnext : Hid (x.OkA j → j + 1 ≤ n) := Lib.hid fun h => by
        rcases HBB.out with ⟨_, e⟩ | ⟨_, e, e2⟩
        · omega
        · rcases Nat.lt_or_ge j n with h' | h'
          · omega
          · obtain rfl : j = n := by omega
            exact absurd h e2
      have hbad : Hid (¬ x.OkA j → b = false) := Lib.hid fun h => by
        rcases HBB.out with ⟨_, e⟩ | ⟨e, _, _⟩
        · exact absurd (HOK.out j (by omega)) h
        · exact e
      clear hj hj65 hv
      by_cases h0 : v = 0
      · subst h0
        have hhad : Hid (x.had (j + 1) = x.had j) := Lib.hid (by show (if x.i j = 0 then _ else _) = _; rw [if_pos HV.out])
        cases ob
        · have hokj := hnext.out (by unfold Sup.OkA; rw [if_pos HV.out]; exact hob)
          clear hob
          go_wp2
          go_roundw
          case rel => exact ⟨j + 1, hokj, by go_num, HR2, by rw [hhad.out]; exact HR3, HB⟩
          case measure => have := H65.out; simp [intOf]; omega
        · have hbf := hbad.out (by unfold Sup.OkA; rw [if_pos HV.out, hob]; decide)
          subst hbf
          clear hob
          go_wp2
          go_ret
          exact ⟨rfl, HB.out⟩
      · have h0b : (v == 0) = false := by simpa using h0
        clear c3
        by_cases hr : 0 ≤ v ∧ v < 256
        · obtain ⟨m, rfl⟩ : ∃ m : Nat, v = (m : Int) := ⟨v.toNat, by omega⟩
          have hm : m < 256 := by omega
          have hm0 : m ≠ 0 := by omega
          have hmi : (m : Int) < 256 := by omega
          have hge : (decide ((0 : Int) ≤ (m : Int)) && decide ((m : Int) < 256)) = true := by simp; omega
          rw [hge] at HSL
          have HM := Lib.hid hm
          have HIFF := Lib.hid (x.had_iff j (fun k hk => HOK.out k (by have := HJ.out; omega)) m hm0)
          obtain ⟨ub, hub⟩ : ∃ ub, x.u m = ub := ⟨_, rfl⟩
          have c1 : wr.cell? ⟨g2, 1 + m, none⟩ = some (.bool ub) := by rw [HR2.out.cell, x.c_u hm, hub]
          have HNZ := Lib.hid (p := x.i j ≠ 0) (by rw [HV.out]; exact h0)
          clear hge hm hr hob h0
          cases ub
          · have hbf := hbad.out (by
              unfold Sup.OkA
              rw [if_neg HNZ.out, HV.out]
              rintro ⟨_, _, h, _⟩
              rw [Int.toNat_natCast, hub] at h
              cases h)
            subst hbf
            clear hub hm0
            go_wp2_with (go_at_call 112; refine (HSL.out _).mono ?_; rintro e w' ⟨rfl, rfl⟩)
            go_ret
            exact ⟨rfl, HB.out⟩
          · obtain ⟨hd, hhd⟩ : ∃ hd, x.had j m = hd := ⟨_, rfl⟩
            have c2 : wr.cell? ⟨g3, m, none⟩ = some (.bool hd) := by rw [HR3.out.cell, bls_get _ HM.out, hhd]
            cases hd
            · have hok : x.OkA j := by
                unfold Sup.OkA
                rw [if_neg HNZ.out, HV.out]
                refine ⟨by omega, hmi, by rw [Int.toNat_natCast]; exact hub, fun k hk e => ?_⟩
                have h := HIFF.out.2 ⟨k, hk, e⟩
                rw [hhd] at h
                cases h
              have hokj := hnext.out hok
              have hhad : Hid (x.had (j + 1) = at1 (x.had j) m true) := Lib.hid (by show (if x.i j = 0 then _ else _) = _; rw [if_neg HNZ.out, HV.out, Int.toNat_natCast])
              have f2 := HR3.out.free m
              clear hub hhd hm0 hok
              go_wp2_with (go_at_call 112; refine (HSL.out _).mono ?_; rintro e w' ⟨rfl, rfl⟩)
              go_roundw
              case rel => exact ⟨j + 1, hokj, by go_num, Lib.hid (HR2.out.far (p := ⟨g3, m, none⟩) (by have := N23.out; intro e; simp at e; omega) _), Lib.hid (by rw [hhad.out, ← set_bls _ _ HM.out]; exact HR3.out.put _ _), Lib.hid (HB.out.setCell (show w.heap.size ≤ g3 by have := N23.out; have := Q2.out; omega) _)⟩
              case measure => have := H65.out; simp [intOf]; omega
            · have hbf := hbad.out (by
                unfold Sup.OkA
                rw [if_neg HNZ.out, HV.out]
                rintro ⟨_, _, _, h⟩
                obtain ⟨k, hk, e⟩ := HIFF.out.1 hhd
                exact h k hk e)
              subst hbf
              clear hub hhd hm0
              go_wp2_with (go_at_call 112; refine (HSL.out _).mono ?_; rintro e w' ⟨rfl, rfl⟩)
              go_ret
              exact ⟨rfl, HB.out⟩
        · have hge : (decide ((0 : Int) ≤ v) && decide (v < 256)) = false := by
            rw [Bool.and_eq_false_iff]
            simp only [decide_eq_false_iff_not]
            omega
          rw [hge] at HSL
          have hbf := hbad.out (by
            unfold Sup.OkA
            rw [HV.out, if_neg h0]
            rintro ⟨h1, h2, _⟩
            exact hr ⟨h1, h2⟩)
          subst hbf
          clear hge hr hob h0
          go_wp2_with (go_at_call 112; refine (HSL.out _).mono ?_; rintro e w' ⟨rfl, rfl⟩)
          go_ret
          exact ⟨rfl, HB.out⟩
    · have hj65' : j = 65 := by have := HN.out; omega
      have hbt : b = true := by
        rcases HBB.out with ⟨e, _⟩ | ⟨_, e, _⟩
        · exact e
        · omega
      subst hj65' hbt
      clear hj hj65
      go_wp2
      go_ret
      exact ⟨rfl, HB.out⟩
theorem least_bad (p : Nat → Prop) (N : Nat) : (∀ j, j < N → p j) ∨ ∃ n, n < N ∧ ¬ p n ∧ ∀ j, j < n → p j := by
  induction N with
  | zero => exact .inl fun j hj => by omega
  | succ N ih =>
    rcases ih with h | ⟨n, h1, h2, h3⟩
    · by_cases hp : p N
      · exact .inl fun j hj => by
          rcases Nat.lt_or_ge j N with h' | h'
          · exact h j h'
          · obtain rfl : j = N := by omega
            exact hp
      · exact .inr ⟨N, by omega, hp, h⟩
    · exact .inr ⟨n, by omega, h2, h3⟩
theorem apart_ok (x : Sup) (h : ∀ j, j < 65 → x.OkA j) (w : World) : Calls Tryz.prog 114 #[.agg x.cs.toArray] w fun e w' => e = .returned (.bool true) ∧ Below w.heap.size w w' := apart_gen x true 65 (Nat.le_refl _) h (.inl ⟨rfl, rfl⟩) w
theorem apart_no (x : Sup) (h : ¬ ∀ j, j < 65 → x.OkA j) (w : World) : Calls Tryz.prog 114 #[.agg x.cs.toArray] w fun e w' => e = .returned (.bool false) ∧ Below w.heap.size w w' := by
  rcases least_bad x.OkA 65 with h' | ⟨n, h1, h2, h3⟩
  · exact absurd h' h
  · exact apart_gen x false n (by omega) h3 (.inr ⟨rfl, h1, h2⟩) w
set_option maxHeartbeats 1000000 in
theorem maybe_any (x : Sup) (b : Bool) (hb : b = true ↔ x.May) (w : World) : Calls Tryz.prog 90 #[.agg x.cs.toArray] w fun e w' => e = .returned (.bool b) ∧ Below w.heap.size w w' := by
  have i1 := Lib.hid (fun x : Sup => info_cs x)
  obtain ⟨s, hs⟩ : ∃ s, x.s = s := ⟨_, rfl⟩
  obtain ⟨u, hu⟩ : ∃ u, x.u 0 = u := ⟨_, rfl⟩
  obtain ⟨v, hv⟩ : ∃ v, x.i 0 = v := ⟨_, rfl⟩
  have C0 := Lib.hid (p := ∀ (w : World) (g : Nat), Row w g 59 x.cs → w.cell? ⟨g, 0, none⟩ = some (.int .u64 (s : Int)) ∧ w.cell? ⟨g, 1, none⟩ = some (.bool u) ∧ w.cell? ⟨g, 257, none⟩ = some (.int .i64 v)) (fun w g h => ⟨by rw [h.cell, x.c_s, hs], by rw [h.cell, show 1 = 1 + 0 from rfl, x.c_u (by decide), hu], by rw [h.cell, show 257 = 257 + 0 from rfl, x.c_i (by decide), hv]⟩)
  have HBB := Lib.hid hb
  have HSS := Lib.hid hs
  have HUU := Lib.hid hu
  have HVV := Lib.hid hv
  clear hb hs hu hv
  by_cases hs0 : s = 0
  · obtain rfl : b = false := by
      cases b
      · rfl
      · exact absurd (HSS.out.trans hs0) (HBB.out.1 rfl).1
    subst hs0
    go_enter Tryz.func90, Tryz.ntmps90
    go_wp2_with (first
      | go_skip
      | go_big_skip
      | (refine step_box rfl 1 rfl 59 (.tmp 0) rfl x.cs rfl ?_; intro g2 w2 hr2 hg2 hb2 hs2
         obtain ⟨c0, c1, c2⟩ := C0.out _ _ hr2
         have R2 := Lib.hid hr2
         have HB2 := Lib.hid hb2
         have Q2 := Lib.hid (p := w.heap.size ≤ g2) (by rw [hg2.out]; exact Nat.le_refl _)
         clear hr2 hb2 hg2 hs2))
    go_ret
    exact ⟨rfl, HB2.out⟩
  · have hs0' : ((s : Int) != 0) = true := by simp; omega
    cases u
    · obtain rfl : b = false := by
        cases b
        · rfl
        · have := (HBB.out.1 rfl).2.1
          rw [HUU.out] at this
          cases this
      clear hs0
      go_enter Tryz.func90, Tryz.ntmps90
      go_wp2_with (first
        | go_skip
        | go_big_skip
        | (refine step_box rfl 1 rfl 59 (.tmp 0) rfl x.cs rfl ?_; intro g2 w2 hr2 hg2 hb2 hs2
           obtain ⟨c0, c1, c2⟩ := C0.out _ _ hr2
           have R2 := Lib.hid hr2
           have HB2 := Lib.hid hb2
           have Q2 := Lib.hid (p := w.heap.size ≤ g2) (by rw [hg2.out]; exact Nat.le_refl _)
           clear hr2 hb2 hg2 hs2))
      go_ret
      exact ⟨rfl, HB2.out⟩
    · by_cases hv0 : v = 0
      · subst hv0
        by_cases ha : ∀ j, j < 65 → x.OkA j
        · obtain rfl : b = true := HBB.out.2 ⟨by rw [HSS.out]; exact hs0, HUU.out, HVV.out, ha⟩
          have HAP := Lib.hid (fun w => apart_ok x ha w)
          clear hs0 ha
          go_enter Tryz.func90, Tryz.ntmps90
          go_wp2_with (first
            | go_skip
            | go_big_skip
            | (refine step_box rfl 1 rfl 59 (.tmp 0) rfl x.cs rfl ?_; intro g2 w2 hr2 hg2 hb2 hs2
               obtain ⟨c0, c1, c2⟩ := C0.out _ _ hr2
               have R2 := Lib.hid hr2
               have HB2 := Lib.hid hb2
               have Q2 := Lib.hid (p := w.heap.size ≤ g2) (by rw [hg2.out]; exact Nat.le_refl _)
               clear hr2 hb2 hg2 hs2)
            | (refine step_load_g (by rfl) 18 rfl 59 (.tmp 1) rfl g2 rfl x.cs _ R2.out.all Tryz.underlying59 rfl (i1.out _) ?_)
            | (go_at_call 114; refine (HAP.out _).mono ?_; rintro e w5 ⟨rfl, hb5⟩
               have HB5 := Lib.hid (below_nxt hb5 HB2.out)
               clear hb5))
          go_ret
          exact ⟨rfl, HB5.out⟩
        · obtain rfl : b = false := by
            cases b
            · rfl
            · exact absurd (HBB.out.1 rfl).2.2.2 ha
          have HAP := Lib.hid (fun w => apart_no x ha w)
          clear hs0 ha
          go_enter Tryz.func90, Tryz.ntmps90
          go_wp2_with (first
            | go_skip
            | go_big_skip
            | (refine step_box rfl 1 rfl 59 (.tmp 0) rfl x.cs rfl ?_; intro g2 w2 hr2 hg2 hb2 hs2
               obtain ⟨c0, c1, c2⟩ := C0.out _ _ hr2
               have R2 := Lib.hid hr2
               have HB2 := Lib.hid hb2
               have Q2 := Lib.hid (p := w.heap.size ≤ g2) (by rw [hg2.out]; exact Nat.le_refl _)
               clear hr2 hb2 hg2 hs2)
            | (refine step_load_g (by rfl) 18 rfl 59 (.tmp 1) rfl g2 rfl x.cs _ R2.out.all Tryz.underlying59 rfl (i1.out _) ?_)
            | (go_at_call 114; refine (HAP.out _).mono ?_; rintro e w5 ⟨rfl, hb5⟩
               have HB5 := Lib.hid (below_nxt hb5 HB2.out)
               clear hb5))
          go_ret
          exact ⟨rfl, HB5.out⟩
      · obtain rfl : b = false := by
          cases b
          · rfl
          · exact absurd (HVV.out.symm.trans (HBB.out.1 rfl).2.2.1) hv0
        have hv0' : (v == 0) = false := by simpa using hv0
        clear hs0 hv0
        go_enter Tryz.func90, Tryz.ntmps90
        go_wp2_with (first
          | go_skip
          | go_big_skip
          | (refine step_box rfl 1 rfl 59 (.tmp 0) rfl x.cs rfl ?_; intro g2 w2 hr2 hg2 hb2 hs2
             obtain ⟨c0, c1, c2⟩ := C0.out _ _ hr2
             have R2 := Lib.hid hr2
             have HB2 := Lib.hid hb2
             have Q2 := Lib.hid (p := w.heap.size ≤ g2) (by rw [hg2.out]; exact Nat.le_refl _)
             clear hr2 hb2 hg2 hs2))
        go_ret
        exact ⟨rfl, HB2.out⟩
end Go.Proofs.YtfbfeplegdpemaaGreat
/- Numbers put behind bytes by package wire: what each call leaves, for every argument (bytes of at most 2^45). No other conditions. -/
set_option linter.unusedVariables false
namespace Go.Proofs.YtfbfeplegdpemaaGreat
open Go.RowKit

theorem info5 : (Tryz.prog.info? 5).map (fun i => (i.zero, i.size, i.bytes)) = some (some (.int .u8 0), 1, 1) := by kernel_rfl
theorem u8_table : ∃ i, U8 Tryz.prog 22 5 i := by
  obtain ⟨i, hi, hz, h1, h2⟩ := info_parts info5
  exact ⟨i, Tryz.underlying22, hi, hz, h1, h2⟩

theorem width_any (n : Int) (w : World) : Calls Tryz.prog 107 #[.int .i64 n] w fun e w' => e = .returned (.int .i64 (wid n : Nat)) ∧ w = w' := by
  by_cases h8 : n = 8
  · subst h8
    go_enter Tryz.func107, Tryz.ntmps107
    go_wp2
    go_ret
    exact ⟨rfl, rfl⟩
  by_cases h4 : n = 4
  · subst h4
    go_enter Tryz.func107, Tryz.ntmps107
    go_wp2
    go_ret
    exact ⟨rfl, rfl⟩
  by_cases h2 : n = 2
  · subst h2
    go_enter Tryz.func107, Tryz.ntmps107
    go_wp2
    go_ret
    exact ⟨rfl, rfl⟩
  by_cases h1 : n = 1
  · subst h1
    go_enter Tryz.func107, Tryz.ntmps107
    go_wp2
    go_ret
    exact ⟨rfl, rfl⟩
  have e8 : (n == 8) = false := by simp [h8]
  have e4 : (n == 4) = false := by simp [h4]
  have e2 : (n == 2) = false := by simp [h2]
  have e1 : (n == 1) = false := by simp [h1]
  have hw : wid n = 0 := by simp [wid, h8, h4, h2, h1]
  rw [hw]
  clear h8 h4 h2 h1 hw
  go_enter Tryz.func107, Tryz.ntmps107
  go_wp2
  go_ret
  exact ⟨rfl, rfl⟩

theorem room_any (A : Option Addr) (c : Nat) (l : List UInt8) (more : Nat) (w : World) (hA : Hol w A l) (hb : l.length + more ≤ 70368744177664) :
    Calls Tryz.prog 106 #[.slice A l.length c, .int .i64 more] w fun e w' => ∃ v, e = .returned v ∧ w'.ownsRow w.heap.size 5 1 v l.length (bc l) ∧ Below w.heap.size w w' := by
  obtain ⟨i, U⟩ := u8_table
  go_enter Tryz.func106, Tryz.ntmps106
  go_wp2_with (first
    | (refine wpList_make_own _ rfl _ _ 22 rfl w.heap.size 5 i (.int .u8 0) 1 U.ht U.hi U.hz U.h1 .i64 .i64 _ (l.length + more) rfl rfl (by omega) (by rw [U.h2]; omega) (by unfold maxLen; omega) (Nat.le_refl _) ?_
       intro w1 hown1 hg1)
    | (at_builtin
       refine wpList_app _ rfl _ _ _ rfl 5 i U w.heap.size _ 0 [] rfl hown1 A l.length c l rfl rfl (hA.below (below_of_grown hg1)) (by omega) hg1.size ?_
       intro v2 w2 hown2 hg2 hat2))
  go_ret
  refine ⟨v2, rfl, by simpa using hown2, (below_of_grown hg1).grown hg2 hg1.size (fun k hk => (hown1.lt k hk).1)⟩

/-- One byte in a new block of its own. -/
theorem hol_one (w : World) (e : TypeId) (x : UInt8) (z : Int) (hz : z = (x.toNat : Int)) : Hol (w.alloc (.cells #[.int .u8 z] e)) (some ⟨w.heap.size, 0, none⟩) [x] := by
  subst hz
  refine .inr ⟨w.heap.size, 0, rfl, fun j y hy => ?_⟩
  match j, hy with
  | 0, hy =>
    simp at hy
    subst hy
    simp

theorem byte_shr (x k : Nat) : (x : Int) / 2 ^ (8 * k) % 256 = ((UInt8.ofNat (x / 256 ^ k)).toNat : Int) := by
  have e : (UInt8.ofNat (x / 256 ^ k)).toNat = x / 256 ^ k % 256 := UInt8.toNat_ofNat' ..
  have e2 : (2 : Int) ^ (8 * k) = ((256 ^ k : Nat) : Int) := by
    rw [Int.pow_mul]
    simp
  rw [e, e2]
  omega

set_option maxHeartbeats 400000 in
theorem number_any (B : Nat) (v : Value) (n : Nat) (l : List UInt8) (size : Nat) (x : Nat) (w : World) (hown : w.ownsRow B 5 1 v n (bc l)) (hs : size ≤ 8) (hx : x < 18446744073709551616)
    (hn : n ≤ 70368744177664) (hB : B ≤ w.heap.size) :
    Calls Tryz.prog 119 #[v, .int .i64 size, .int .u64 x] w fun e w' => ∃ v', e = .returned v' ∧ w'.ownsRow B 5 1 v' (n + size) (bc (l ++ leb x size)) ∧ Below B w w' := by
  obtain ⟨i, U⟩ := u8_table
  go_enter Tryz.func119, Tryz.ntmps119
  go_wp2
  go_loopw [0, 9] (fun s i wr => ∃ k : Nat, k ≤ size ∧ i = .int .i64 k ∧ wr.ownsRow B 5 1 s (n + k) (bc (l ++ leb x k)) ∧ Below B w wr) (fun _ i _ => size - (intOf i).toNat)
  case atStart => exact ⟨0, Nat.zero_le _, rfl, by simpa [leb] using hown, Below.refl _ _⟩
  case round =>
    obtain ⟨k, hk, rfl, hown1, hb1⟩ := hrel
    by_cases hlt : k < size
    · go_wp2_with (at_builtin; refine wpList_app _ rfl _ _ _ rfl 5 i U B _ (n + k) _ rfl (hown1.alloc _) (some ⟨wr.heap.size, 0, none⟩) 1 1 [UInt8.ofNat (x / 256 ^ k)] rfl rfl (hol_one _ _ _ _ ?hz) (by omega) (by have := hb1.size; simp; omega) ?_)
      case hz => exact byte_shr x k
      intro v2 w2 hown2 hg2 hat2
      have hb2 : Below B w w2 := (hb1.alloc (by have := hb1.size; omega) _).grown hg2 (by have := hb1.size; simp; omega) (fun k hk => (hown1.lt k hk).1)
      have hown3 : w2.ownsRow B 5 1 v2 (n + (k + 1)) (bc (l ++ leb x (k + 1))) := by
        rw [leb_succ, ← List.append_assoc, bc_app]
        exact hown2
      clear hown2 hg2 hat2 hown1 hb1
      go_wp2
      go_roundw
      case rel => exact ⟨k + 1, by omega, by go_num, hown3, hb2⟩
      case measure => simp [intOf]; omega
    · go_wp2
      go_ret
      have hks : k = size := by omega
      subst hks
      exact ⟨_, rfl, hown1, hb1⟩

theorem put_arg (v : Value) (size : Int) (x : Nat) (w : World) (h : wid size = 0) :
    Calls Tryz.prog 104 #[v, .int .i64 size, .int .u64 x] w fun e w' => e = .returned (.tuple #[.slice none 0 0, .int .i64 201]) ∧ w = w' := by
  go_enter Tryz.func104, Tryz.ntmps104
  go_wp2_with (go_at_call 107; refine (width_any _ _).mono ?_; rintro e w' ⟨rfl, rfl⟩; rw [h])
  go_ret2
  exact ⟨rfl, rfl⟩

theorem put_long (v : Value) (size : Int) (x : Nat) (w : World) (h : wid size ≠ 0) (hx : x / 2 ^ wid size ≠ 0) (h64 : wid size < 64) :
    Calls Tryz.prog 104 #[v, .int .i64 size, .int .u64 x] w fun e w' => e = .returned (.tuple #[.slice none 0 0, .int .i64 202]) ∧ w = w' := by
  go_enter Tryz.func104, Tryz.ntmps104
  have hx2 : ((x : Int) / 2 ^ wid size != 0) = true := by
    rw [bne_iff_ne]
    intro e
    apply hx
    have : ((x / 2 ^ wid size : Nat) : Int) = 0 := by rw [← e]; simp
    omega
  have hw0 : ((wid size : Int) == 0) = false := by simp; omega
  clear hx h
  go_wp2_with (go_at_call 107; refine (width_any _ _).mono ?_; rintro e w' ⟨rfl, rfl⟩)
  go_ret2
  exact ⟨rfl, rfl⟩
def putR (l : List UInt8) (size : Int) (x : Nat) : List UInt8 × Int :=
  if wid size = 0 then ([], 201) else if x / 256 ^ size.toNat ≠ 0 then ([], 202) else (l ++ leb x size.toNat, 0)
/-- Bytes and an error, the bytes the call's own. -/
def BytesPost (w : World) (r : List UInt8 × Int) (e : Ending) (w' : World) : Prop :=
  ∃ v, e = .returned (.tuple #[v, .int .i64 r.2]) ∧ w'.ownsRow w.heap.size 5 1 v r.1.length (bc r.1) ∧ Below w.heap.size w w'
theorem wid_pow (size : Int) (h : wid size ≠ 0) : (2 : Nat) ^ wid size = 256 ^ size.toNat := by
  have h1 := wid_eq h
  have h2 := wid_pos h
  have e : wid size = 8 * size.toNat := by omega
  rw [e, Nat.pow_mul]

theorem put_any (A : Option Addr) (c : Nat) (l : List UInt8) (size : Int) (x : Nat) (w : World) (hA : Hol w A l) (hx : x < 18446744073709551616) (hl : l.length ≤ 35184372088832) :
    Calls Tryz.prog 104 #[.slice A l.length c, .int .i64 size, .int .u64 x] w (BytesPost w (putR l size x)) := by
  by_cases h : wid size = 0
  · have hr : putR l size x = ([], 201) := by unfold putR; rw [if_pos h]
    rw [hr]
    exact (put_arg _ size x w h).mono fun e w' ⟨he, hw⟩ => ⟨_, he, World.ownsRow_nil _ _ _ _, by rw [hw]; exact Below.refl _ _⟩
  by_cases hx2 : x / 256 ^ size.toNat ≠ 0
  · have hr : putR l size x = ([], 202) := by unfold putR; rw [if_neg h, if_pos hx2]
    rw [hr]
    refine (put_long _ size x w h (by rw [wid_pow size h]; exact hx2) ?_).mono fun e w' ⟨he, hw⟩ => ⟨_, he, World.ownsRow_nil _ _ _ _, by rw [hw]; exact Below.refl _ _⟩
    have hp := wid_pos h
    have he := wid_eq h
    rcases (by omega : size = 8 ∨ size < 8) with h8 | h8
    · exfalso
      apply hx2
      rw [h8]
      exact Nat.div_eq_of_lt (by simpa using hx)
    · omega
  · have hr : putR l size x = (l ++ leb x size.toNat, 0) := by unfold putR; rw [if_neg h, if_neg hx2]
    rw [hr]
    have hp := wid_pos h
    have he := wid_eq h
    have hx3 : ((x : Int) / 2 ^ wid size != 0) = false := by
      rw [bne_eq_false_iff_eq]
      have e1 : (2 : Int) ^ wid size = ((256 ^ size.toNat : Nat) : Int) := by rw [← wid_pow size h, Int.natCast_pow]; rfl
      rw [e1]
      have : x / 256 ^ size.toNat = 0 := by simpa using hx2
      rw [← Int.natCast_ediv, this]
      rfl
    have hw0 : ((wid size : Int) == 0) = false := by simp; omega
    have hw1 : wid size ≤ 64 := wid_le size
    obtain ⟨k, rfl⟩ := Int.eq_ofNat_of_zero_le (by omega : 0 ≤ size)
    rw [Int.toNat_natCast]
    have hk : k ≤ 8 := by omega
    clear hx2 h hr hp he
    go_enter Tryz.func104, Tryz.ntmps104
    go_wp2_with (first
      | (go_at_call 107; refine (width_any _ _).mono ?_; rintro e w' ⟨rfl, rfl⟩)
      | (go_at_call 106; refine (room_any A c l k w hA (by omega)).mono ?_; rintro e w1 ⟨v, rfl, hown1, hb1⟩)
      | (go_at_call 119; refine (number_any w.heap.size v l.length l k x w1 hown1 hk hx (by omega) hb1.size).mono ?_; rintro e w2 ⟨v2, rfl, hown2, hb2⟩))
    go_ret2
    refine ⟨v2, rfl, ?_, hb1.trans hb2⟩
    have : (l ++ leb x k).length = l.length + k := by rw [List.length_append, leb_len]
    rw [this]
    exact hown2

end Go.Proofs.YtfbfeplegdpemaaGreat
