/- Four records as a node's block, by the reference: what the call leaves, for every four records. Conditions: their numbers fit. -/
import Derived.Test.YtibnmhaipogleaaDoorRMay
import Derived.Test.YtibnmhaipogleaaDoorPack
set_option linter.unusedVariables false
set_option maxRecDepth 20000
namespace Go.Proofs.YtibnmhaipogleaaDoor
open Go.RowKit

theorem lst_app (n m : Nat) (f : Nat → UInt8) : lst (n + m) f = lst n f ++ lst m (fun j => f (n + j)) := by
  unfold lst
  rw [List.range_add, List.map_append, List.map_map]
  rfl
theorem lst_eq {n : Nat} {f : Nat → UInt8} {l : List UInt8} (hl : l.length = n) (h : ∀ j, j < n → f j = l.getD j 0) : lst n f = l := by
  apply List.ext_getElem?
  intro j
  by_cases hj : j < n
  · rw [lst_get f hj, h j hj, List.getD_eq_getElem?_getD, List.getElem?_eq_getElem (by omega)]
    rfl
  · rw [List.getElem?_eq_none (by rw [lst_len]; omega), List.getElem?_eq_none (by omega)]
/-- The first records' bytes. -/
def cat (R : Nat → RecV) : Nat → List UInt8
  | 0 => []
  | k + 1 => cat R k ++ (R k).b
theorem cat_len (R : Nat → RecV) : ∀ k, (cat R k).length = 42 * k
  | 0 => rfl
  | k + 1 => by rw [cat, List.length_append, cat_len R k, (R k).b_len]; omega
theorem cat_pk (R : Nat → RecV) : ∀ k, k ≤ 4 → lst (42 * k) (pk R) = cat R k
  | 0, _ => rfl
  | k + 1, h => by
    rw [Nat.mul_succ, lst_app, cat_pk R k (by omega), cat]
    congr 1
    refine lst_eq (R k).b_len fun j hj => ?_
    unfold pk
    rw [if_pos (by omega), show (42 * k + j) / 42 = k by omega, show (42 * k + j) % 42 = j by omega]
theorem cat_end (R : Nat → RecV) : cat R 4 ++ List.replicate 88 0 = lst 256 (pk R) := by
  have e : lst 88 (fun j => pk R (42 * 4 + j)) = List.replicate 88 0 := lst_eq (by simp) fun j hj => by
    unfold pk
    rw [if_neg (by omega), List.getD_eq_getElem?_getD, List.getElem?_replicate, if_pos hj]
    rfl
  rw [show (256 : Nat) = 42 * 4 + 88 from rfl, lst_app, cat_pk R 4 (by omega), e]
theorem own_ne {w : World} {base n g : Nat} {v : Value} {xs cs : List Value} {t : TypeId} (h : w.ownsRow base 5 1 v n xs) (hr : Row w g t cs) (ht : t ≠ 5) : some g ≠ v.ownBlock := by
  intro e
  rcases h.2 with ⟨rfl, _⟩ | ⟨g', cap, cur, rfl, hb, hg, _⟩
  · cases e
  · have e' : g = g' := by injection e
    subst e'
    unfold Row at hr
    rw [hr] at hg
    injection hg with hg
    injection hg with _ h2
    exact ht h2
/-- How many a slice has. -/
def slen : Value → Nat
  | .slice _ n _ => n
  | _ => 0
/-- What the reference's Pack leaves. -/
def RPackPost (R : Nat → RecV) (w : World) (e : Ending) (w' : World) : Prop :=
  ((∀ k, k < 4 → (R k).may = true) ∧ ∃ A n c, e = .returned (.tuple #[.slice A n c, .int .i64 0]) ∧ n = 256 ∧ Hol w' A (lst 256 (pk R)) ∧ Below w.heap.size w w') ∨
  ((∃ k, k < 4 ∧ (R k).may = false) ∧ e = .returned (.tuple #[.slice none 0 0, .int .i64 201]) ∧ Below w.heap.size w w')
set_option maxHeartbeats 2000000 in
theorem rpack_any (R : Nat → RecV) (hR : ∀ k, k < 4 → (R k).Ok) (w : World) : Calls Tryd.prog 12 #[.agg (recsC R).toArray] w (RPackPost R w) := by
  obtain ⟨i, U⟩ := u8_tab
  have i35 := Lib.hid (p := ∀ r : RecV, (Tryd.prog.info? 26).map (·.size) = some r.cs.length) (fun r => by rw [r.cs_len]; exact info_rec)
  have HR := Lib.hid hR
  obtain ⟨C1, hC1⟩ : ∃ C1, C1 = recsC R := ⟨_, rfl⟩
  have HG := Lib.hid (p := ∀ (W : World) (g : Nat), Row W g 27 C1 → ∀ k : Nat, k < 4 → W.rangeAt g (k * 35) (R k).cs) (fun W g h k hk => by rw [hC1] at h; exact recs_range h k hk)
  rw [← hC1]
  clear hR hC1
  go_enter Tryd.func12, Tryd.ntmps12
  go_wp2_with (first
    | (refine step_box rfl 1 rfl 27 _ rfl C1 rfl ?_; intro g1 w1 hr1 hg1 hb1 hs1; have HR1 := Lib.hid hr1; have HB1 := Lib.hid hb1; clear hr1 hb1 hg1 hs1))
  go_loopw [5, 4] (fun x v wr => ∃ (k : Nat) (A : Option Addr) (n c : Nat), k ≤ 4 ∧ x = .int .i64 (k : Int) ∧ v = .slice A n c ∧ Hid (n = 42 * k) ∧ Hid (∀ j, j < k → (R j).may = true) ∧ Hid (wr.ownsRow w.heap.size 5 1 (.slice A n c) n (bc (cat R k))) ∧ Hid (Row wr g1 27 C1) ∧ Hid (Below w.heap.size w wr)) (fun x _ _ => 4 - (intOf x).toNat)
  case atStart => exact ⟨0, none, 0, 0, by omega, rfl, rfl, rfl, fun j hj => by omega, World.ownsRow_nil _ _ _ _, HR1, HB1⟩
  case round =>
    obtain ⟨k, A, n, c, hk, rfl, rfl, HN, HM, HO, HRow, HB⟩ := hrel
    by_cases h4 : k < 4
    · have hki : (k : Int) < 4 := by omega
      have hk0 : (0 : Int) ≤ (k : Int) := by omega
      by_cases hm : (R k).may = true
      · obtain ⟨m, hma, hm2⟩ := RecV.may_in hm
        have HMA := Lib.hid hma
        have HM2 := Lib.hid hm2
        have HM1 := Lib.hid hm
        have HK := Lib.hid h4
        clear hma hm2 hm
        go_wp2_with (first
          | (refine wpList_load_mid rfl 26 (.tmp 11) rfl g1 (k * 35) (by rfl) (R k).cs _ (HG.out _ _ HRow.out k HK.out) Tryd.underlying26 rfl (i35.out _) ?_)
          | (go_at_call 27; refine (rmay_any (R k) _).mono ?_; rintro e5 w5 ⟨rfl, hb5⟩; rw [HM1.out]
             have HB5 := Lib.hid hb5
             have HRow5 := Lib.hid (HRow.out.kept hb5)
             clear hb5)
          | (refine wpList_load_mid rfl 26 (.tmp 17) rfl g1 (k * 35) (by rfl) (R k).cs _ (HG.out _ _ HRow5.out k HK.out) Tryd.underlying26 rfl (i35.out _) ?_)
          | (go_at_call 28; refine (rrecord_any (R k) m HMA.out HM2.out (HR.out k HK.out) _).mono ?_; rintro e6 w6 ⟨A6, n6, c6, rfl, hn6, ho6, hb6⟩
             have HB6 := Lib.hid (p := Below wr.heap.size wr w6) (HB5.out.trans (hb6.out.mono HB5.out.size))
             have HL6 := Lib.hid (Hol.own ho6.out)
             have HO6 := Lib.hid (own_kept HO.out HB6.out)
             have HS6 := Lib.hid (p := w.heap.size ≤ w6.heap.size) (Nat.le_trans HB.out.size HB6.out.size)
             clear ho6 hb6)
          | (at_builtin; refine wpList_app _ rfl _ _ _ rfl 5 i U w.heap.size _ n _ rfl HO6.out A6 n6 c6 (R k).b rfl hn6.out HL6.out (by have := HN.out; have := hn6.out; rw [RecV.b_len] at this; omega) HS6.out ?_; intro v7 w7 ho7 hg7 hat7; obtain ⟨A7, c7, rfl⟩ := own_sl ho7
             have HB7 := Lib.hid (p := Below w.heap.size w w7) ((HB.out.trans (HB6.out.mono HB.out.size)).grown hg7 HS6.out (fun q hq => (HO6.out.lt q hq).1))
             have HRow7 := Lib.hid (p := Row w7 g1 27 C1) ((HRow.out.kept HB6.out).grown hg7 (own_ne HO6.out (HRow.out.kept HB6.out) (by decide)))
             have HO7 := Lib.hid (p := w7.ownsRow w.heap.size 5 1 (.slice A7 (n + n6) c7) (n + n6) (bc (cat R (k + 1)))) (by rw [cat, bc_app]; exact ho7)
             have HN7 := Lib.hid (p := n + n6 = 42 * (k + 1)) (by have := HN.out; have := hn6.out; rw [RecV.b_len] at this; omega)
             clear ho7 hg7 hat7))
        go_roundw
        case rel => exact ⟨k + 1, A7, n + n6, c7, by omega, by go_num, rfl, HN7, Lib.hid (fun j hj => by
          by_cases e : j = k
          · rw [e]; exact HM1.out
          · exact HM.out j (by omega)), HO7, HRow7, HB7⟩
        case measure => simp [intOf]; omega
      · have HM1 := Lib.hid (p := (R k).may = false) (by simpa using hm)
        have HK := Lib.hid h4
        clear hm
        go_wp2_with (first
          | (refine wpList_load_mid rfl 26 (.tmp 11) rfl g1 (k * 35) (by rfl) (R k).cs _ (HG.out _ _ HRow.out k HK.out) Tryd.underlying26 rfl (i35.out _) ?_)
          | (go_at_call 27; refine (rmay_any (R k) _).mono ?_; rintro e5 w5 ⟨rfl, hb5⟩; rw [HM1.out]))
        go_ret2
        exact .inr ⟨⟨k, HK.out, HM1.out⟩, rfl, HB.out.trans (hb5.mono HB.out.size)⟩
    · obtain rfl : k = 4 := by omega
      have HN4 := Lib.hid (p := n = 168 + 0) HN.out
      have HO4 := Lib.hid (p := wr.ownsRow w.heap.size 5 1 (.slice A n c) n (bc (cat R 4 ++ List.replicate 0 0))) (by rw [List.replicate_zero, List.append_nil]; exact HO.out)
      clear HN HO HRow
      go_wp2
      go_loopw [4] (fun v wr => ∃ (j : Nat) (A : Option Addr) (n c : Nat), j ≤ 88 ∧ v = .slice A n c ∧ Hid (n = 168 + j) ∧ Hid (wr.ownsRow w.heap.size 5 1 (.slice A n c) n (bc (cat R 4 ++ List.replicate j 0))) ∧ Hid (Below w.heap.size w wr)) (fun v _ => 256 - slen v)
      case atStart => exact ⟨0, A, n, c, by omega, rfl, HN4, HO4, HB⟩
      case round =>
        clear HN4 HO4 HB
        obtain ⟨j, A, n, c, hj, rfl, HN, HO, HB⟩ := hrel
        by_cases h8 : j < 88
        · have hni : (n : Int) < 256 := by have := HN.out; omega
          have HJ := Lib.hid h8
          go_wp2_with (at_builtin; refine wpList_app _ rfl _ _ _ rfl 5 i U w.heap.size _ n _ rfl (HO.out.alloc _) (some ⟨wr.heap.size, 0, none⟩) 1 1 [0] rfl rfl (hol_byte (made_byte wr _ _)) (by have := HN.out; omega) (by have := HB.out.size; simp; omega) ?_; intro v7 w7 ho7 hg7 hat7; obtain ⟨A7, c7, rfl⟩ := own_sl ho7)
          have HB7 := Lib.hid (p := Below w.heap.size w w7) ((HB.out.alloc HB.out.size _).grown hg7 (by have := HB.out.size; simp; omega) (fun q hq => (HO.out.lt q hq).1))
          have HO7 := Lib.hid (p := w7.ownsRow w.heap.size 5 1 (.slice A7 (n + 1) c7) (n + 1) (bc (cat R 4 ++ List.replicate (j + 1) 0))) (by rw [List.replicate_succ', ← List.append_assoc, bc_app (b := [0])]; exact ho7)
          have HN7 := Lib.hid (p := n + 1 = 168 + (j + 1)) (by have := HN.out; omega)
          clear ho7 hg7 hat7
          go_roundw
          case rel => exact ⟨_, _, _, _, _, _, _, ⟨j + 1, A7, n + 1, c7, HJ.out, rfl, HN7, HO7, HB7⟩, rfl⟩
          case measure => simp [slen]; omega
        · obtain rfl : j = 88 := by omega
          have hni : ¬ (n : Int) < 256 := by have := HN.out; omega
          go_wp2
          go_ret2
          have hH := Hol.own HO.out
          rw [cat_end] at hH
          exact .inl ⟨fun q hq => HM.out q hq, A, n, c, rfl, by have := HN.out; omega, hH, HB.out⟩
end Go.Proofs.YtibnmhaipogleaaDoor
