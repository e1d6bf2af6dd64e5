/- A new space. Conditions: the library's table lies there. -/
import Derived.Test.YtpocccnhibjjcaaGreatDoorMgSx
import Derived.Test.YtpocccnhibjjcaaGreatDoorMgPm
import Derived.Test.YtpocccnhibjjcaaGreatDoorMgVy
set_option linter.unusedVariables false
namespace Go.Proofs.YtpocccnhibjjcaaGreatDoor.S8
open Go.RowKit

theorem new_built (z : Int) : Tryz.prog.built 123 [(0, .int .i64 z)] = some (Value.int .i64 z :: List.replicate 32 (Value.int .u64 0)).toArray := by kernel_rfl
theorem new_spc (N : Nat) : (Value.int .i64 (N : Int) :: List.replicate 32 (Value.int .u64 0)) = spc N (fun j => decide (j < 0)) (fun _ => false) := by
  have e : (fun j : Nat => decide (j < 0)) = (fun _ => false) := by funext j; simp
  rw [e]
  refine spc_of (by simp) rfl (fun i hi => ?_) (fun i hi => ?_)
  · rw [wv_none, Nat.add_comm, List.getElem?_cons_succ, List.getElem?_replicate, if_pos (by omega)]
    rfl
  · rw [wv_none, show 17 + i = (16 + i) + 1 by omega, List.getElem?_cons_succ, List.getElem?_replicate, if_pos (by omega)]
    rfl
theorem lt_next (k : Nat) : put (fun j => decide (j < k)) k true = fun j => decide (j < k + 1) := by
  funext j
  unfold put
  by_cases e : j = k
  · rw [if_pos e, e]; simp
  · rw [if_neg e, decide_eq_decide]; omega
theorem lt_all (N : Nat) : (fun j => decide (j < N)) = fr N (fun _ => 0) := by
  funext j
  rw [Bool.eq_iff_iff, fr_lt]
  simp
theorem no_back (N : Nat) : (fun _ => false) = bk N (fun _ => 0) := by
  funext j
  symm
  rw [← Bool.not_eq_true, bk_lt]
  omega
theorem down {k N : Nat} (h : k < N) : N - ((k : Int) + 1).toNat < N - (k : Int).toNat := by omega
theorem new_step {w5 : World} {g N k : Nat} (hk : k < 1024) (h5 : Row w5 g 123 ((spc N (fun j => decide (j < k)) (fun _ => false)).set (1 + k / 64) (W64 (num 64 (put (fun j => decide (64 * (k / 64) + j < k)) (k % 64) true))))) :
    SpAt w5 g N (fun j => decide (j < k + 1)) (fun _ => false) := by
  have e := spc_setF N (fun j => decide (j < k)) (fun _ => false) true hk
  rw [lt_next] at e
  rw [e] at h5
  exact h5
theorem new_any (N : Nat) (h1 : 1 ≤ N) (h2 : N ≤ 1024) (w : World) (hT : Tab w) : Calls Tryz.prog 39 #[.int .i64 (N : Int)] w fun e w' =>
    ∃ g, e = .returned (.tuple #[.pointer (some ⟨g, 0, none⟩), .int .i64 0]) ∧ w.heap.size ≤ g ∧ Spc w' g N (fun _ => 0) ∧ Below w.heap.size w w' := by
  have HT := Lib.hid hT
  have d1 : decide ((N : Int) < 1) = false := decide_eq_false (by omega)
  have d2 : decide (1024 < (N : Int)) = false := decide_eq_false (by omega)
  have d3 : decide (1024 < N) = false := decide_eq_false (by omega)
  have d4 : decide (N < 1) = false := decide_eq_false (by omega)
  have H := Lib.hid (p := 1 ≤ N ∧ N ≤ 1024) ⟨h1, h2⟩
  have HZB := Lib.hid (new_built (N : Int))
  clear hT h1 h2
  go_enter Tryz.func39, Tryz.ntmps39
  go_wp2_with (first
    | (refine step_build rfl 123 _ rfl [(0, .int .i64 (N : Int))] ?hv _ HZB.out ?_; case hv => simp [Act.eval])
    | (refine step_box rfl 14 rfl 123 _ rfl (Value.int .i64 (N : Int) :: List.replicate 32 (Value.int .u64 0)) rfl ?_; intro g w1 hr1 hg1 hb1 hs1; have HR1 := Lib.hid hr1; have HB1 := Lib.hid hb1; clear hr1 hb1 hs1))
  have HS1 : Hid (SpAt w1 g N (fun j => decide (j < 0)) (fun _ => false)) := Lib.hid (by have := HR1.out; rw [new_spc] at this; exact this)
  go_loopw [16] (fun i wr => ∃ k : Nat, k ≤ N ∧ i = .int .i64 (k : Int) ∧ Hid (SpAt wr g N (fun j => decide (j < k)) (fun _ => false)) ∧ Hid (Below w.heap.size w wr)) (fun i _ => N - (intOf i).toNat)
  case atStart => exact ⟨0, Nat.zero_le _, rfl, HS1, HB1⟩
  case round =>
    clear HS1 HR1 HB1
    obtain ⟨k, hk, rfl, hS, hB⟩ := hrel
    by_cases hlt : k < N
    · have hx : (spc N (fun j => decide (j < k)) (fun _ => false))[1 + k / 64]? = some (W64 (num 64 (fun j => decide (64 * (k / 64) + j < k)))) := by
        rw [spc_free _ _ _ (by have := H.out.2; omega), wv_eq]
      have HX := Lib.hid hx
      have hkN : (k : Int) < (N : Int) := by omega
      have hw1 : wrap64 ((k : Int) + 1) = (k : Int) + 1 := by unfold wrap64; have := H.out.2; omega
      have hw2 : IntKind.i64.wrap ((k : Int) + 1) = (k : Int) + 1 := by rw [IntKind.wrap_i64]; have := H.out.2; omega
      have HK := Lib.hid hlt
      have HKB := Lib.hid (show k < 1024 by have := H.out.2; omega)
      clear hx hlt hk
      go_wp2_with (go_at_call 65; refine (add_any (off := 1) (a := k) hS.out HKB.out HX.out).mono ?_; rintro e w5 ⟨⟨v5, rfl⟩, h5, g5⟩; have H5 := Lib.hid h5; have G5 := Lib.hid g5; clear h5 g5)
      have HBN : Hid (Hid (Below w.heap.size w w5)) := Lib.hid (Lib.hid (hB.out.grown G5.out hB.out.size (fun j e => by injection e with e; rw [← e, hg1.out]; exact Nat.le_refl _)))
      go_roundw
      case rel =>
        exact ⟨k + 1, HK.out, by go_num, Lib.hid (new_step (HKB.out) H5.out), HBN.out⟩
      case measure => exact down HK.out
    · obtain rfl : k = N := by omega
      have hfin : Hid (Spc wr g k (fun _ => 0)) := Lib.hid ⟨by rw [← lt_all, ← no_back]; exact hS.out, H.out.2, fun _ => by omega, HT.out.below hB.out HT.out.lt, fun e => by have := HT.out.lt; rw [e, hg1.out] at this; exact Nat.lt_irrefl _ this⟩
      go_wp2
      go_ret2
      exact ⟨g, rfl, by rw [hg1.out]; exact Nat.le_refl _, hfin.out, hB.out⟩
end Go.Proofs.YtpocccnhibjjcaaGreatDoor.S8
/- All nodes, of the program and of the reference: what each call leaves. No conditions. -/
set_option linter.unusedVariables false
namespace Go.Proofs.YtpocccnhibjjcaaGreatDoor.P7
open Go.RowKit

set_option maxHeartbeats 400000 in
theorem all_any (d : Int) (w : World) :
    Calls Tryz.prog 40 #[.int .i64 d] w (SpotsPost w (al (lv d))) := by
  have hl := lv_le d
  obtain ⟨n, hn⟩ : ∃ n, lv d = n := ⟨_, rfl⟩
  rw [hn] at hl ⊢
  have HN := Lib.hid hn
  clear hn
  go_enter Tryz.func40, Tryz.ntmps40
  go_wp2_with (first
    | (go_at_call 66; refine (levels_any _ _).mono ?_; rintro e w' ⟨rfl, rfl⟩; rw [HN.out]))
  go_loopw [3, 8] (fun v i wr => ∃ k : Nat, k ≤ n ∧ i = .int .i64 k ∧ ∃ A m c, v = .slice A m c ∧ Hid (OwnS w.heap.size wr A m c (al k)) ∧ Hid (Below w.heap.size w wr)) (fun _ i _ => n - (intOf i).toNat)
  case atStart => exact ⟨0, Nat.zero_le _, rfl, none, 0, 0, rfl, Lib.hid (OwnS.nil _ _), Lib.hid (Below.refl _ _)⟩
  case round =>
    obtain ⟨k, hk, rfl, A, m, c, rfl, HO, HB⟩ := hrel
    have hp := pw_le (n := k) (by omega)
    have hp0 : (0 : Int) ≤ (pw k : Int) := by omega
    have hp1 : (pw k : Int) ≤ 256 := by omega
    by_cases hlt : k < n
    · go_wp2_with (go_at_call 67; refine (width_any k (by omega) _).mono ?_; rintro e w' ⟨rfl, rfl⟩)
      go_loopw [3, 13] (fun v i wr => ∃ j : Nat, j ≤ pw k ∧ i = .int .i64 j ∧ ∃ A m c, v = .slice A m c ∧ Hid (OwnS w.heap.size wr A m c (al k ++ lev k j)) ∧ Hid (Below w.heap.size w wr)) (fun _ i _ => pw k - (intOf i).toNat)
      case atStart => exact ⟨0, Nat.zero_le _, rfl, A, m, c, rfl, Lib.hid (by rw [lev_zero, List.append_nil]; exact HO.out), HB⟩
      case round =>
        rename_i hO
        clear HO HB
        obtain ⟨j, hj, rfl, A, m, c, rfl, HO, HB⟩ := hrel
        by_cases hjl : j < pw k
        · have HM := Lib.hid (p := m ≤ 341) (by have h1 := HO.out.len; rw [List.length_append, al_len, lev_len] at h1; have := nd_le (n := k) (by omega); omega)
          go_wp2_with (first
            | (at_builtin; refine wp_join rfl _ _ rfl rec_spot w.heap.size (.slice A m c) m ((al k ++ lev k j).flatMap sp) rfl (HO.out.alloc _) (some ⟨wr.heap.size, 0, none⟩) 1 1 (sp ((k : Int), (j : Int))) rfl rfl (made_src wr (sp ((k : Int), (j : Int))) _) (sp_one _) (by have := HM.out; omega) (Nat.le_trans HB.out.size (below_al wr _).size) ?_
               intro v5 w2 hr2 hg2 hat2
               obtain ⟨A5, c5, rfl, hO5, hB5⟩ := spot_more HB.out HO.out hr2 hg2
               have HO5 := Lib.hid hO5
               have HB5 := Lib.hid hB5
               clear hr2 hg2 hat2 hO5 hB5))
          go_roundw
          case rel => exact ⟨j + 1, by omega, by go_num, A5, m + 1, c5, rfl, by rw [lev_succ, ← List.append_assoc]; exact HO5, HB5⟩
          case measure => simp [intOf]; omega
        · obtain rfl : j = pw k := by omega
          go_wp2
          go_roundw
          case rel => exact ⟨k + 1, by omega, by go_num, A, m, c, rfl, HO, HB⟩
          case measure => simp [intOf]; omega
    · obtain rfl : k = n := by omega
      go_wp2
      go_ret
      exact SpotsPost.mk HO.out HB.out rfl
set_option maxHeartbeats 400000 in
theorem rall_any (d : Int) (w : World) :
    Calls Tryz.prog 34 #[.int .i64 d] w (SpotsPost w (al (lv d))) := by
  by_cases hd : 1 ≤ d ∧ d ≤ 4
  · obtain ⟨n, rfl, hn1, hn4⟩ := lv_nat hd.1 hd.2
    have HL := Lib.hid (sl_of hn1 hn4)
    have hp := pw_pos n
    have hne : ((pw n : Int) == 0) = false := by simp; omega
    rw [lv_of hn1 hn4]
    clear hd
    go_enter Tryz.func34, Tryz.ntmps34
    go_wp2_with (first
      | (go_at_call 11; refine (rslots_any _ _).mono ?_; rintro e w' ⟨rfl, rfl⟩; rw [HL.out]))
    go_loopw [3, 4] (fun v i wr => ∃ k : Nat, k ≤ n ∧ i = .int .i64 k ∧ ∃ A m c, v = .slice A m c ∧ Hid (OwnS w.heap.size wr A m c (al k)) ∧ Hid (Below w.heap.size w wr)) (fun _ i _ => n - (intOf i).toNat)
    case atStart => exact ⟨0, Nat.zero_le _, rfl, none, 0, 0, rfl, Lib.hid (OwnS.nil _ _), Lib.hid (Below.refl _ _)⟩
    case round =>
      obtain ⟨k, hk, rfl, A, m, c, rfl, HO, HB⟩ := hrel
      have hp := pw_le (n := k) (by omega)
      have hp0 : (0 : Int) ≤ (pw k : Int) := by omega
      have hp1 : (pw k : Int) ≤ 256 := by omega
      by_cases hlt : k < n
      · go_wp2
        go_loopw [3, 5] (fun v i wr => ∃ j : Nat, j ≤ pw k ∧ i = .int .i64 j ∧ ∃ A m c, v = .slice A m c ∧ Hid (OwnS w.heap.size wr A m c (al k ++ lev k j)) ∧ Hid (Below w.heap.size w wr)) (fun _ i _ => pw k - (intOf i).toNat)
        case atStart => exact ⟨0, Nat.zero_le _, rfl, A, m, c, rfl, Lib.hid (by rw [lev_zero, List.append_nil]; exact HO.out), HB⟩
        case round =>
          rename_i hO
          clear HO HB
          obtain ⟨j, hj, rfl, A, m, c, rfl, HO, HB⟩ := hrel
          by_cases hjl : j < pw k
          · have HM := Lib.hid (p := m ≤ 341) (by have h1 := HO.out.len; rw [List.length_append, al_len, lev_len] at h1; have := nd_le (n := k) (by omega); omega)
            go_wp2_with (first
              | (go_at_call 42; refine (power_any k (by omega) _).mono ?_; rintro e w' ⟨rfl, rfl⟩)
              | (at_builtin; refine wp_join rfl _ _ rfl rec_spot w.heap.size (.slice A m c) m ((al k ++ lev k j).flatMap sp) rfl (HO.out.alloc _) (some ⟨wr.heap.size, 0, none⟩) 1 1 (sp ((k : Int), (j : Int))) rfl rfl (made_src wr (sp ((k : Int), (j : Int))) _) (sp_one _) (by have := HM.out; omega) (Nat.le_trans HB.out.size (below_al wr _).size) ?_
                 intro v5 w2 hr2 hg2 hat2
                 obtain ⟨A5, c5, rfl, hO5, hB5⟩ := spot_more HB.out HO.out hr2 hg2
                 have HO5 := Lib.hid hO5
                 have HB5 := Lib.hid hB5
                 clear hr2 hg2 hat2 hO5 hB5))
            go_roundw
            case rel => exact ⟨j + 1, by omega, by go_num, A5, m + 1, c5, rfl, by rw [lev_succ, ← List.append_assoc]; exact HO5, HB5⟩
            case measure => simp [intOf]; omega
          · obtain rfl : j = pw k := by omega
            go_wp2_with (go_at_call 42; refine (power_any k (by omega) _).mono ?_; rintro e w' ⟨rfl, rfl⟩)
            go_roundw
            case rel => exact ⟨k + 1, by omega, by go_num, A, m, c, rfl, HO, HB⟩
            case measure => simp [intOf]; omega
      · obtain rfl : k = n := by omega
        go_wp2
        go_ret
        exact SpotsPost.mk HO.out HB.out rfl
  · have HL := Lib.hid (sl_out hd)
    rw [lv_out hd]
    clear hd
    go_enter Tryz.func34, Tryz.ntmps34
    go_wp2_with (first
      | (go_at_call 11; refine (rslots_any _ _).mono ?_; rintro e w' ⟨rfl, rfl⟩; rw [HL.out]))
    go_ret
    exact SpotsPost.mk (OwnS.nil _ _) (Below.refl _ _) rfl
end Go.Proofs.YtpocccnhibjjcaaGreatDoor.P7
/- A vault made: what New leaves. Conditions: a disk and an anchor lie there; the disk has blocks enough. -/
set_option linter.unusedVariables false
set_option maxRecDepth 20000
namespace Go.Proofs.YtpocccnhibjjcaaGreatDoor
open Go.RowKit

def allN (n : Nat) : List (Nat × Nat) := (P7.al n).map fun x => (x.1.toNat, x.2.toNat)
theorem al_pos : ∀ n, ∀ x ∈ P7.al n, 0 ≤ x.1 ∧ 0 ≤ x.2
  | 0, x, h => by simp [P7.al] at h
  | n + 1, x, h => by
    have h : x ∈ P7.al n ++ P7.lev n (P7.pw n) := h
    rcases List.mem_append.1 h with h | h
    · exact al_pos n x h
    · obtain ⟨i, _, rfl⟩ := List.mem_map.1 h
      exact ⟨by simp, by simp⟩
theorem allN_cells (n : Nat) : (allN n).flatMap pcs = (P7.al n).flatMap P7.sp := by
  unfold allN
  rw [List.flatMap_map]
  refine flatMap_eq fun x hx => ?_
  obtain ⟨h1, h2⟩ := al_pos n x hx
  unfold pcs P7.sp
  rw [Int.toNat_of_nonneg h1, Int.toNat_of_nonneg h2]
theorem allN_len (n : Nat) : (allN n).length = (P7.al n).length := List.length_map ..
def newC (gd ga : Nat) (vp : Option Addr) (n gs gn gh gc : Nat) (un mf : Value) : VC := ⟨gd, ga, .pointer vp, n, gs, 0, 0, rec0, gn, mf, un, false, gh, gc, .nilFunc, .map none, .slice none 0 0, .slice none 0 0⟩
def enB (d z : Int) : Bool := decide (0 < P7.sl d) && decide (2 * ((P7.sl d : Int) + (P7.nd (P7.lv d) : Int)) ≤ z)
theorem nd_le (d : Int) : P7.nd (P7.lv d) ≤ 85 := by
  have h := P7.lv_le d
  revert h
  generalize P7.lv d = n
  intro h
  match n, h with
  | 0, _ => decide
  | 1, _ => decide
  | 2, _ => decide
  | 3, _ => decide
  | 4, _ => decide
theorem venough (d z : Int) (w : World) : Calls Tryz.prog 38 #[.int .i64 d, .int .i64 z] w fun e w' => e = .returned (.bool (enB d z)) ∧ w = w' := by
  obtain ⟨s, hs⟩ : ∃ s, P7.sl d = s := ⟨_, rfl⟩
  obtain ⟨m, hm⟩ : ∃ m, P7.nd (P7.lv d) = m := ⟨_, rfl⟩
  have hs2 := P7.sl_le d
  have hm2 := nd_le d
  have HS := Lib.hid (fun w => P7.slots_any d w)
  have HN := Lib.hid (fun w => P7.nodes_any d w)
  unfold enB
  rw [hs] at HS hs2 ⊢
  rw [hm] at HN hm2 ⊢
  have w1 : IntKind.i64.wrap ((s : Int) + (m : Int)) = (s : Int) + (m : Int) := by rw [IntKind.wrap_i64]; omega
  have w2 : IntKind.i64.wrap (2 * ((s : Int) + (m : Int))) = 2 * ((s : Int) + (m : Int)) := by rw [IntKind.wrap_i64]; omega
  have w1' : wrap64 ((s : Int) + (m : Int)) = (s : Int) + (m : Int) := by unfold wrap64; omega
  have w2' : wrap64 (2 * ((s : Int) + (m : Int))) = 2 * ((s : Int) + (m : Int)) := by unfold wrap64; omega
  clear hs hm hm2 hs2
  by_cases h0 : 0 < s
  · have h0' : decide (0 < s) = true := decide_eq_true h0
    have h0i : (0 : Int) < (s : Int) := by omega
    rw [h0', Bool.true_and]
    clear h0 h0'
    go_enter Tryz.func38, Tryz.ntmps38
    go_wp2_with (first
      | (go_at_call 63; refine (HS.out _).mono ?_; rintro e w4 ⟨rfl, rfl⟩)
      | (go_at_call 64; refine (HN.out _).mono ?_; rintro e w4 ⟨rfl, rfl⟩))
    go_ret
    exact ⟨rfl, rfl⟩
  · obtain rfl : s = 0 := by omega
    clear h0
    go_enter Tryz.func38, Tryz.ntmps38
    go_wp2_with (first
      | (go_at_call 63; refine (HS.out _).mono ?_; rintro e w4 ⟨rfl, rfl⟩)
      | (go_at_call 64; refine (HN.out _).mono ?_; rintro e w4 ⟨rfl, rfl⟩))
    go_ret
    exact ⟨rfl, rfl⟩
structure NewF (w w' : World) (g gd ga : Nat) (vp : Option Addr) (n N gs gn gh gc : Nat) (un : Value) : Prop where
  row : VAt w' g (newC gd ga vp n gs gn gh gc un (stV 41 g))
  nodes : MN w' gn 0 fun _ _ _ => rec0
  held : MI w' gh 0 fun _ => none
  chd : MI w' gc 0 fun _ => none
  un : PS w' un (allN n)
  spc : S8.Spc w' gs N fun _ => 0
  ne1 : gn ≠ gh
  ne2 : gn ≠ gc
  ne3 : gh ≠ gc
  lg : w.heap.size ≤ g
  ls : w.heap.size ≤ gs
  ln : w.heap.size ≤ gn
  lh : w.heap.size ≤ gh
  lc : w.heap.size ≤ gc
  below : Below w.heap.size w w'
def NewP (w : World) (gd ga : Nat) (vp : Option Addr) (n N : Nat) (e : Ending) (w' : World) : Prop :=
  ∃ g gs gn gh gc un, e = .returned (.tuple #[.pointer (some ⟨g, 0, none⟩), .int .i64 0]) ∧ NewF w w' g gd ga vp n N gs gn gh gc un
theorem newF_mk {w w5 w6 : World} {gs gd ga n N c6 : Nat} {vp A6 : Option Addr} (hgs : w.heap.size ≤ gs) (hsp : S8.Spc w5 gs N fun _ => 0) (hb5 : Below w.heap.size w w5) (hb6 : Below (w5.alloc (.map #[] 0)).heap.size (w5.alloc (.map #[] 0)) w6) (hO : P7.OwnS (w5.alloc (.map #[] 0)).heap.size w6 A6 (P7.al n).length c6 (P7.al n))
    (Z : Array Value) (hz : Z = (newC gd ga vp n gs w5.heap.size w6.heap.size (w6.heap.size + 1) (.slice A6 (P7.al n).length c6) (stV 41 (w6.heap.size + 1 + 1))).cs.toArray) :
    NewF w (((w6.alloc (.map #[] 0)).alloc (.map #[] 0)).alloc (.cells Z 90)) (w6.heap.size + 1 + 1) gd ga vp n N gs w5.heap.size w6.heap.size (w6.heap.size + 1) (.slice A6 (P7.al n).length c6) := by
  subst hz
  have s5 : (w5.alloc (.map #[] 0)).heap.size = w5.heap.size + 1 := by simp
  have s6 : (w6.alloc (.map #[] 0)).heap.size = w6.heap.size + 1 := by simp
  have s7 : ((w6.alloc (.map #[] 0)).alloc (.map #[] 0)).heap.size = w6.heap.size + 1 + 1 := by simp
  have l5 := hb5.size
  have l6 := hb6.size
  have b56 : Below w5.heap.size w5 w6 := below_nxt hb6 ((Below.refl _ _).alloc (Nat.le_refl _) _)
  have b6 : ∀ Z, Below w6.heap.size w6 (((w6.alloc (.map #[] 0)).alloc (.map #[] 0)).alloc (.cells Z 90)) := fun Z => (((Below.refl _ _).alloc (Nat.le_refl _) _).alloc (by simp) _).alloc (by simp; omega) _
  have b7 : ∀ Z, Below (w6.alloc (.map #[] 0)).heap.size (w6.alloc (.map #[] 0)) (((w6.alloc (.map #[] 0)).alloc (.map #[] 0)).alloc (.cells Z 90)) := fun Z => ((Below.refl _ _).alloc (Nat.le_refl _) _).alloc (by simp) _
  have b8 : ∀ Z, Below ((w6.alloc (.map #[] 0)).alloc (.map #[] 0)).heap.size ((w6.alloc (.map #[] 0)).alloc (.map #[] 0)) (((w6.alloc (.map #[] 0)).alloc (.map #[] 0)).alloc (.cells Z 90)) := fun Z => (Below.refl _ _).alloc (Nat.le_refl _) _
  refine { row := ?_, nodes := ((MN.made w5).below hb6).below (b6 _), held := (MI.made w6).below (b7 _), chd := ?_, un := ?_, spc := ((hsp.kept b56).kept (b6 _)), ne1 := by omega, ne2 := by omega, ne3 := by omega, lg := by omega, ls := hgs, ln := l5, lh := by omega, lc := by omega, below := below_nxt (b6 _) (below_nxt b56 hb5) }
  · have z := Row.made ((w6.alloc (.map #[] 0)).alloc (.map #[] 0)) 90 (newC gd ga vp n gs w5.heap.size w6.heap.size (w6.heap.size + 1) (.slice A6 (P7.al n).length c6) (stV 41 (w6.heap.size + 1 + 1))).cs
    rw [s7] at z
    exact z
  · have z := (MI.made (w6.alloc (.map #[] 0))).below (b8 (newC gd ga vp n gs w5.heap.size w6.heap.size (w6.heap.size + 1) (.slice A6 (P7.al n).length c6) (stV 41 (w6.heap.size + 1 + 1))).cs.toArray)
    rw [s6] at z
    exact z
  · have z : w6.ownsRow (w5.alloc (.map #[] 0)).heap.size 99 2 (.slice A6 (P7.al n).length c6) (P7.al n).length ((P7.al n).flatMap P7.sp) := hO
    rw [← allN_cells, ← allN_len] at z
    rw [← allN_len]
    exact (PS.own z).below (b6 _)
set_option maxHeartbeats 4000000 in
theorem vnew {b : Nat} {w : World} {gd ga : Nat} {FD : List Nat} {ss : List BV} {rs : List (Nat × BV)} {E : Nat → List BV} {ts : List (Int × Int × BV)} (vp : Option Addr) (hd : PD b w gd FD ss rs E ts) (n : Nat) (hn1 : 1 ≤ n) (hn4 : n ≤ 4) (hen : enB (n : Int) (ss.length : Int) = true) (hl : 1 ≤ ss.length) (hl2 : ss.length ≤ 1024) (hT : S8.Tab w) :
    Calls Tryz.prog 9 #[.pointer (some ⟨gd, 0, none⟩), .pointer (some ⟨ga, 0, none⟩), .pointer vp, .int .i64 (n : Int)] w (NewP w gd ga vp n ss.length) := by
  have hmm := @run_makeMap Tryz.prog
  have HD := Lib.hid hd
  have HE := Lib.hid hen
  have HT := Lib.hid hT
  have HL := Lib.hid (p := 1 ≤ ss.length ∧ ss.length ≤ 1024) ⟨hl, hl2⟩
  have HLV := Lib.hid (P7.lv_of hn1 hn4)
  have i52 := Lib.hid (p := ∀ c : VC, (Tryz.prog.info? 90).map (·.size) = some c.cs.length) (fun c => by rw [c.cs_len]; kernel_rfl)
  obtain ⟨NB, hNB⟩ : ∃ NB, ss.length = NB := ⟨_, rfl⟩
  have HB := Lib.hid (p := ∀ w2, Below w.heap.size w w2 → Calls Tryz.prog 35 #[.pointer (some ⟨gd, 0, none⟩)] w2 fun e w' => e = .returned (.int .i64 (NB : Int)) ∧ w2 = w') (fun w2 hb => (hd.kept hb).blocks.mono fun e w' h => ⟨by rw [h.1, hNB], h.2.symm⟩)
  rw [hNB] at HE HL ⊢
  clear hd hen hT hl hl2 hNB hn1 hn4 HD
  go_enter Tryz.func9, Tryz.ntmps9
  go_wp2_with (first
    | (go_at_call 35; refine (HB.out _ (Below.refl _ _)).mono ?_; rintro e w4 ⟨rfl, rfl⟩)
    | (go_at_call 38; refine (venough _ _ _).mono ?_; rintro e w4 ⟨rfl, rfl⟩; rw [HE.out])
    | (go_at_call 39; refine (S8.new_any NB HL.out.1 HL.out.2 _ HT.out).mono ?_; rintro e w5 ⟨gs, rfl, hgs, hsp, hb5⟩
       have HS := Lib.hid hsp
       have HGS := Lib.hid hgs
       have HB5 := Lib.hid hb5
       clear hsp hgs hb5)
    | (go_at_call 40; refine (P7.all_any (n : Int) _).mono ?_; rintro e w6 ⟨A6, c6, rfl, hO6, hB6⟩
       rw [HLV.out] at hO6 ⊢
       have HO6 := Lib.hid hO6
       have HB6 := Lib.hid hB6
       clear hO6 hB6))
  go_ret2
  exact ⟨_, gs, _, _, _, _, rfl, newF_mk HGS.out HS.out HB5.out HB6.out HO6.out _ (by kernel_rfl)⟩
end Go.Proofs.YtpocccnhibjjcaaGreatDoor
/- The tree that a root's record tells, by its records and blocks alone: what it is, what becomes of it when a record is replaced, a block written. No conditions. -/
set_option linter.unusedVariables false
set_option maxRecDepth 20000
namespace Go.Proofs.YtpocccnhibjjcaaGreatDoor
open Go.RowKit

structure REq (r q : RecV) : Prop where
  a : r.a = q.a
  e : r.e = q.e
  s : r.s = q.s
  l : r.l = q.l
theorem REq.refl (r : RecV) : REq r r := ⟨rfl, rfl, rfl, rfl⟩
theorem REq.symm {r q : RecV} (h : REq r q) : REq q r := ⟨h.a.symm, h.e.symm, h.s.symm, h.l.symm⟩
theorem REq.trans {r q p : RecV} (h : REq r q) (k : REq q p) : REq r p := ⟨h.a.trans k.a, h.e.trans k.e, h.s.trans k.s, h.l.trans k.l⟩
theorem REq.eqb {r q : RecV} (h : REq r q) (z : RecV) : r.eqb z = q.eqb z := by
  unfold RecV.eqb
  rw [h.a, h.e, h.s, h.l]
theorem REq.b {r q : RecV} (h : REq r q) : r.b = q.b := by
  unfold RecV.b
  rw [h.a, h.e, h.s, h.l]
theorem REq.may {r q : RecV} (h : REq r q) : r.may = q.may := by
  unfold RecV.may RecV.leads
  rw [h.a, h.eqb]
theorem REq.ok {r q : RecV} (h : REq r q) (k : r.Ok) : q.Ok := ⟨h.e ▸ k.e, h.s ▸ k.s⟩
theorem eqb_REq {r q : RecV} (h : r.eqb q = true) : REq r q := by
  unfold RecV.eqb at h
  simp at h
  exact ⟨h.1, by exact_mod_cast h.2.1, by exact_mod_cast h.2.2.1, h.2.2.2⟩
theorem nil4_congr {R Q : Nat → RecV} (h : ∀ k, k < 4 → REq (R k) (Q k)) : nil4 R = nil4 Q := by
  unfold nil4
  have : ∀ l : List Nat, (∀ k ∈ l, k < 4) → (l.all fun i => (R i).eqb rec0) = l.all fun i => (Q i).eqb rec0 := by
    intro l
    induction l with
    | nil => intro _; rfl
    | cons a t ih =>
      intro hl
      rw [List.all_cons, List.all_cons, (h a (hl a (by simp))).eqb, ih (fun k hk => hl k (List.mem_cons_of_mem _ hk))]
  exact this _ (fun k hk => List.mem_range.1 hk)
theorem pk_congr {R Q : Nat → RecV} (h : ∀ k, k < 4 → REq (R k) (Q k)) : lst 256 (pk R) = lst 256 (pk Q) := by
  unfold lst
  refine List.map_congr_left fun j _ => ?_
  unfold pk
  by_cases hj : j < 168
  · rw [if_pos hj, if_pos hj, (h (j / 42) (by omega)).b]
  · rw [if_neg hj, if_neg hj]
theorem unR_pk (R : Nat → RecV) (k : Nat) (hk : k < 4) (hok : (R k).Ok) (hm : (R k).may = true) : REq (unR (lst 256 (pk R)) k) (R k) := by
  obtain ⟨a, ha, ha2⟩ := RecV.may_in hm
  have hd : ∃ rest, (lst 256 (pk R)).drop (42 * k) = (R k).b ++ rest := by
    refine ⟨((lst 256 (pk R)).drop (42 * k)).drop 42, ?_⟩
    have e1 : ((lst 256 (pk R)).drop (42 * k)).take 42 = (R k).b := by
      refine List.ext_getElem? fun j => ?_
      by_cases hj : j < 42
      · rw [List.getElem?_take_of_lt hj, List.getElem?_drop]
        unfold lst
        rw [List.getElem?_map, List.getElem?_range (by omega)]
        show some (pk R (42 * k + j)) = _
        unfold pk
        rw [if_pos (by omega), show (42 * k + j) / 42 = k by omega, show (42 * k + j) % 42 = j by omega, List.getD_eq_getElem?_getD, List.getElem?_eq_getElem (by rw [RecV.b_len]; exact hj)]
        rfl
      · rw [List.getElem?_eq_none (by rw [List.length_take]; omega), List.getElem?_eq_none (by rw [RecV.b_len]; omega)]
    rw [← e1, List.take_append_drop]
  obtain ⟨rest, hd⟩ := hd
  unfold unR
  rw [hd]
  have hb : (R k).b ++ rest = leb (R k).a.toNat 2 ++ (leb (R k).e 4 ++ (leb (R k).s 4 ++ ((R k).l ++ rest))) := by simp [RecV.b, nonB]
  rw [hb]
  have l2 : (leb (R k).a.toNat 2).length = 2 := leb_len _ _
  have l4 : (leb (R k).e 4).length = 4 := leb_len _ _
  have l5 : (leb (R k).s 4).length = 4 := leb_len _ _
  unfold recOf
  refine ⟨?_, ?_, ?_, ?_⟩
  · show ((num ((leb (R k).a.toNat 2 ++ _).take 2) : Nat) : Int) = (R k).a
    rw [List.take_append_of_le_length (by omega), List.take_of_length_le (by omega), num_leb, ha, Int.toNat_natCast, Nat.mod_eq_of_lt (by omega)]
  · show num (((leb (R k).a.toNat 2 ++ _).drop 2).take 4) = (R k).e
    rw [List.drop_append, List.drop_of_length_le (by omega), List.nil_append, l2, List.drop_zero, List.take_append_of_le_length (by omega), List.take_of_length_le (by omega), num_leb, Nat.mod_eq_of_lt hok.e]
  · show num (((leb (R k).a.toNat 2 ++ _).drop 6).take 4) = (R k).s
    rw [List.drop_append, List.drop_of_length_le (by omega), List.nil_append, l2, List.drop_append, List.drop_of_length_le (by omega), List.nil_append, l4, List.drop_zero, List.take_append_of_le_length (by omega), List.take_of_length_le (by omega), num_leb, Nat.mod_eq_of_lt hok.s]
  · show lst 32 (fun i => (leb (R k).a.toNat 2 ++ (leb (R k).e 4 ++ (leb (R k).s 4 ++ ((R k).l ++ rest)))).getD (10 + i) 0) = (R k).l
    refine List.ext_getElem? fun j => ?_
    by_cases hj : j < 32
    · have e0 : (R k).l[j]? = some ((R k).l[j]'(by rw [RecV.l_len]; exact hj)) := List.getElem?_eq_getElem _
      unfold lst
      rw [List.getElem?_map, List.getElem?_range hj]
      show some ((leb (R k).a.toNat 2 ++ (leb (R k).e 4 ++ (leb (R k).s 4 ++ ((R k).l ++ rest)))).getD (10 + j) 0) = _
      rw [List.getD_eq_getElem?_getD, List.getElem?_append_right (by omega), l2, List.getElem?_append_right (by omega), l4, List.getElem?_append_right (by omega), l5, List.getElem?_append_left (by rw [RecV.l_len]; omega), show 10 + j - 2 - 4 - 4 = j by omega, e0]
      rfl
    · rw [List.getElem?_eq_none (by rw [lst_len]; omega), List.getElem?_eq_none (by rw [RecV.l_len]; omega)]
theorem unOk_pk (R : Nat → RecV) (hok : ∀ k, k < 4 → (R k).Ok) (hm : ∀ k, k < 4 → (R k).may = true) : unOk (lst 256 (pk R)) = true := by
  have h := fun k hk => unR_pk R k hk (hok k hk) (hm k hk)
  rw [unOk_not (fun k hk => by rw [(h k hk).may]; exact hm k hk)]
  exact decide_eq_true (pk_congr h)
theorem unhid_hid (L : Nat → Nat → List UInt8) (r : RecV) (pl : List UInt8) (hl : pl.length = 256) : unhid L r (lst 256 (hid (pmask L r.e r.s) pl)) = pl := by
  unfold unhid
  refine List.ext_getElem? fun j => ?_
  by_cases hj : j < 256
  · unfold lst
    rw [List.getElem?_map, List.getElem?_range hj]
    show some (hid (pmask L r.e r.s) ((List.range 256).map (hid (pmask L r.e r.s) pl)) j) = pl[j]?
    rw [List.getElem?_eq_getElem (by omega)]
    congr 1
    unfold hid
    rw [List.getD_eq_getElem?_getD, List.getElem?_map, List.getElem?_range hj]
    show pmask L r.e r.s j ^^^ (pmask L r.e r.s j ^^^ pl.getD j 0) = _
    rw [← UInt8.xor_assoc, UInt8.xor_self, UInt8.zero_xor, List.getD_eq_getElem?_getD, List.getElem?_eq_getElem (by omega)]
    rfl
  · rw [List.getElem?_eq_none (by rw [lst_len]; omega), List.getElem?_eq_none (by omega)]

def Plc (n : Nat) (p : Nat × Nat) : Prop := p.1 ≤ n ∧ p.2 < 4 ^ p.1
theorem tr_repl (X : VX) (r : RecV) {n : Nat} {p x : Nat × Nat} (hp : Plc n p) (hx : Plc n x) : tr (X.repl r p.1 p.2).c.top (X.repl r p.1 p.2).N x.1 x.2 = if x = p then r else tr X.c.top X.N x.1 x.2 := by
  obtain ⟨l, i⟩ := p
  obtain ⟨l', i'⟩ := x
  obtain ⟨h1, h2⟩ := hp
  obtain ⟨h3, h4⟩ := hx
  simp only at h1 h2 h3 h4 ⊢
  cases l with
  | zero =>
    cases l' with
    | zero =>
      have e1 : i = 0 := by simpa using h2
      have e2 : i' = 0 := by simpa using h4
      rw [if_pos (by rw [e1, e2])]
      rfl
    | succ l' =>
      rw [if_neg (by intro e; cases e)]
      rfl
  | succ l =>
    cases l' with
    | zero =>
      rw [if_neg (by intro e; cases e)]
      rfl
    | succ l' =>
      show upN X.N l (i / 4) (setK (X.N l (i / 4)) (i % 4) r) l' (i' / 4) (i' % 4) = _
      by_cases e : l' = l ∧ i' / 4 = i / 4
      · obtain ⟨rfl, e2⟩ := e
        rw [e2, upN_same]
        unfold setK
        by_cases e3 : i' % 4 = i % 4
        · rw [if_pos e3, if_pos (by congr 1; omega)]
        · rw [if_neg e3, if_neg (by intro e; injection e with e4 e5; subst e5; exact e3 rfl)]
          show _ = X.N l' (i' / 4) (i' % 4)
          rw [e2]
      · rw [upN_other _ _ e, if_neg (by intro e4; injection e4 with e5 e6; subst e6; exact e ⟨by omega, rfl⟩)]
        rfl
theorem N_repl (X : VX) (r : RecV) {p : Nat × Nat} {l i : Nat} (h : ¬ (p.1 = l + 1 ∧ i = p.2 / 4)) : (X.repl r p.1 p.2).N l i = X.N l i := by
  obtain ⟨l', i'⟩ := p
  cases l' with
  | zero => rfl
  | succ l' =>
    show upN X.N l' (i' / 4) _ l i = _
    exact upN_other _ _ (fun e => h ⟨by simp [e.1], e.2⟩)
theorem N_repl_any (X : VX) (r : RecV) (p : Nat × Nat) (l i k : Nat) : (X.repl r p.1 p.2).N l i k = X.N l i k ∨ (X.repl r p.1 p.2).N l i k = r := by
  obtain ⟨l', i'⟩ := p
  cases l' with
  | zero => exact .inl rfl
  | succ l' =>
    show upN X.N l' (i' / 4) (setK (X.N l' (i' / 4)) (i' % 4) r) l i k = _ ∨ upN X.N l' (i' / 4) (setK (X.N l' (i' / 4)) (i' % 4) r) l i k = _
    by_cases e : l = l' ∧ i = i' / 4
    · obtain ⟨rfl, rfl⟩ := e
      rw [upN_same]
      unfold setK
      by_cases e2 : k = i' % 4
      · rw [if_pos e2]
        exact .inr rfl
      · rw [if_neg e2]
        exact .inl rfl
    · rw [upN_other _ _ e]
      exact .inl rfl

def plT (n : Nat) (N : Nat → Nat → Nat → RecV) (c : Nat → List UInt8) (p : Nat × Nat) : List UInt8 := if p.1 = n then c p.2 else if nil4 (N p.1 p.2) = true then [] else lst 256 (pk (N p.1 p.2))
def RecOk (L : Nat → Nat → List UInt8) (NB : Nat) (D : Nat → List UInt8) (r : RecV) (pl : List UInt8) : Prop :=
  (r.a = 0 ∧ pl = []) ∨ ∃ m : Nat, r.a = (m : Int) + 1 ∧ m < NB ∧ r.Ok ∧ pl.length = 256 ∧ D m = lst 256 (hid (pmask L r.e r.s) pl) ∧ lst 32 (shaF (nonB r.e r.s ++ D m)) = r.l
structure Tree (L : Nat → Nat → List UInt8) (n NB : Nat) (D : Nat → List UInt8) (top : RecV) (N : Nat → Nat → Nat → RecV) (c : Nat → List UInt8) : Prop where
  ok : ∀ p, Plc n p → RecOk L NB D (tr top N p.1 p.2) (plT n N c p)
  inj : ∀ p x, Plc n p → Plc n x → (tr top N p.1 p.2).a ≠ 0 → (tr top N p.1 p.2).a = (tr top N x.1 x.2).a → p = x
  nod : ∀ l i k, l < n → i < 4 ^ l → k < 4 → (N l i k).Ok ∧ (N l i k).may = true
  top_ : top.Ok
theorem RecOk.congr {L : Nat → Nat → List UInt8} {NB : Nat} {D D' : Nat → List UInt8} {r q : RecV} {pl : List UInt8} (h : RecOk L NB D r pl) (hr : REq r q) (hD : ∀ m : Nat, r.a = (m : Int) + 1 → D' m = D m) : RecOk L NB D' q pl := by
  rcases h with ⟨h1, h2⟩ | ⟨m, h1, h2, h3, h4, h5, h6⟩
  · exact .inl ⟨hr.a ▸ h1, h2⟩
  · refine .inr ⟨m, hr.a ▸ h1, h2, hr.ok h3, h4, ?_, ?_⟩
    · rw [hD m h1, ← hr.e, ← hr.s]
      exact h5
    · rw [hD m h1, ← hr.e, ← hr.s, ← hr.l]
      exact h6
theorem tr_congr {n : Nat} {top top' : RecV} {N N' : Nat → Nat → Nat → RecV} (ht : REq top top') (h : ∀ l i k, l < n → i < 4 ^ l → k < 4 → REq (N l i k) (N' l i k)) {p : Nat × Nat} (hp : Plc n p) : REq (tr top N p.1 p.2) (tr top' N' p.1 p.2) := by
  obtain ⟨l, i⟩ := p
  cases l with
  | zero => exact ht
  | succ l =>
    obtain ⟨h1, h2⟩ := hp
    have h1 : l + 1 ≤ n := h1
    have h2 : i < 4 ^ (l + 1) := h2
    rw [Nat.pow_succ] at h2
    exact h l (i / 4) (i % 4) (by omega) (by omega) (by omega)
theorem plT_congr {n : Nat} {N N' : Nat → Nat → Nat → RecV} {c : Nat → List UInt8} (h : ∀ l i k, l < n → i < 4 ^ l → k < 4 → REq (N l i k) (N' l i k)) {p : Nat × Nat} (hp : Plc n p) : plT n N c p = plT n N' c p := by
  obtain ⟨l, i⟩ := p
  unfold plT
  by_cases e : l = n
  · rw [if_pos e, if_pos e]
  · have h1 : l < n := Nat.lt_of_le_of_ne hp.1 e
    rw [if_neg e, if_neg e, nil4_congr (fun k hk => h l i k h1 hp.2 hk), pk_congr (fun k hk => h l i k h1 hp.2 hk)]
theorem Tree.congr {L : Nat → Nat → List UInt8} {n NB : Nat} {D D' : Nat → List UInt8} {top top' : RecV} {N N' : Nat → Nat → Nat → RecV} {c : Nat → List UInt8} (h : Tree L n NB D top N c) (ht : REq top top') (hN : ∀ l i k, l < n → i < 4 ^ l → k < 4 → REq (N l i k) (N' l i k))
    (hD : ∀ p, Plc n p → ∀ m : Nat, (tr top N p.1 p.2).a = (m : Int) + 1 → D' m = D m) : Tree L n NB D' top' N' c where
  ok := fun p hp => by
    rw [← plT_congr hN hp]
    exact (h.ok p hp).congr (tr_congr ht hN hp) (hD p hp)
  inj := fun p x hp hx h1 h2 => h.inj p x hp hx (by rw [(tr_congr ht hN hp).a]; exact h1) (by rw [(tr_congr ht hN hp).a, (tr_congr ht hN hx).a]; exact h2)
  nod := fun l i k hl hi hk => ⟨(hN l i k hl hi hk).ok (h.nod l i k hl hi hk).1, by rw [← (hN l i k hl hi hk).may]; exact (h.nod l i k hl hi hk).2⟩
  top_ := ht.ok h.top_
theorem RecOk.right {L : Nat → Nat → List UInt8} {NB : Nat} {D : Nat → List UInt8} {r : RecV} {pl : List UInt8} (h : RecOk L NB D r pl) (hl : r.ld = true) : ∃ m : Nat, r.a = (m : Int) + 1 ∧ m < NB ∧ r.Ok ∧ (lst 32 (shaF (nonB r.e r.s ++ D m)) == lst 32 r.f) = true ∧ unhid L r (D m) = pl ∧ pl.length = 256 := by
  rcases h with ⟨h1, _⟩ | ⟨m, h1, h2, h3, h4, h5, h6⟩
  · unfold RecV.ld at hl
    simp [h1] at hl
  · refine ⟨m, h1, h2, h3, ?_, ?_, h4⟩
    · rw [h6]
      show (r.l == r.l) = true
      simp
    · rw [h5]
      exact unhid_hid L r pl h4
theorem ld_not {r : RecV} (h : r.ld = false) : r.a = 0 := by unfold RecV.ld at h; simpa using h
end Go.Proofs.YtpocccnhibjjcaaGreatDoor
