/- The digest is that of the padded message's blocks, whatever its length is: the walk. Condition: the listed tables. -/
import Derived.Test.YtcbojloladkkdaaDoorWake
import Derived.Test.YtcbojloladkkdaaDoorRefOf
import Derived.Stop.BytesEq
set_option linter.unusedVariables false
namespace Go.Proofs.YtcbojloladkkdaaDoor.shaPads
open Go.RowKit

theorem run_same (w : World) (f : Nat → UInt8) : (Op.equalIn 10000 27 (.agg (brr 32 f).toArray) (.agg (brr 32 f).toArray)).run Tryd.prog w = .ok true w := by
  have e : brr 32 f = ((List.range 32).map f).map Extern.Stop.cell := by
    unfold brr
    rw [List.map_map]
    rfl
  have h := run_equalIn_bytes (P := Tryd.prog) w 9998 27 5 32 Tryd.underlying27 Tryd.underlying5 (fun w => by kernel_rfl) ((List.range 32).map f) ((List.range 32).map f) (by simp) (by simp)
  rw [← e] at h
  rw [show (10000 : Nat) = 9998 + 2 from rfl, h]
  simp
/-- The first k of a row's bytes. -/
def fil (c : UInt8) (k L : Nat) : List UInt8 := List.replicate k c ++ List.replicate (L - k) 0
theorem fil_len (c : UInt8) (k L : Nat) (h : k ≤ L) : (fil c k L).length = L := by
  unfold fil
  rw [List.length_append, List.length_replicate, List.length_replicate]
  omega
theorem fil_zero (c : UInt8) (L : Nat) : fil c 0 L = List.replicate L 0 := by
  unfold fil
  simp
theorem fil_full (c : UInt8) (L : Nat) : fil c L L = List.replicate L c := by
  unfold fil
  simp
theorem fil_get (c : UInt8) (k L : Nat) (h : k < L) : (bc (fil c k L))[k]? = some (.int .u8 0) := by
  refine get_bc (x := 0) ?_
  unfold fil
  rw [List.getElem?_append_right (by simp), List.length_replicate, Nat.sub_self, List.getElem?_replicate, if_pos (by omega)]
theorem fil_set (c : UInt8) (k L : Nat) (h : k < L) : (bc (fil c k L)).set k (.int .u8 (c.toNat : Int)) = bc (fil c (k + 1) L) := by
  unfold fil
  rw [bc_app, bc_app, List.set_append_right _ _ (by rw [bc_len, List.length_replicate]; omega), bc_len, List.length_replicate, Nat.sub_self]
  obtain ⟨m, hm⟩ : ∃ m, L - k = m + 1 := ⟨L - k - 1, by omega⟩
  rw [hm, show L - (k + 1) = m by omega, List.replicate_succ, List.replicate_succ']
  simp [bc]

set_option maxRecDepth 20000 in
set_option maxHeartbeats 1000000 in
theorem walk (n : Nat) (hn : (n : Int) ≤ 65535) (cb : UInt8) (w : World) (hT : Tabs w) : Calls Tryd.prog 3 #[.int .u16 n, .int .u8 (cb.toNat : Int)] w fun e w' => e = .returned (.bool true) ∧ Below w.heap.size w w' := by
  obtain ⟨i, UT⟩ := u8_table
  have hguard : Tryd.prog.eqGuardType Tryd.prog.depth 27 = false := by kernel_rfl
  obtain ⟨L, hL⟩ : ∃ L, L = n % 4000 := ⟨_, rfl⟩
  have hLI : (n : Int) % 4000 = (L : Int) := by omega
  have hL4 : (L : Int) ≤ 3999 := by omega
  have HT := Lib.hid hT
  clear hT hL
  obtain ⟨z, hz⟩ : ∃ z : Int, z = (cb.toNat : Int) := ⟨_, rfl⟩
  rw [← hz]
  have HZ := Lib.hid hz
  clear hz
  go_enter Tryd.func3, Tryd.ntmps3
  go_wp2_with (first
    | (go_at_call 5; refine (awake_any _ HT.out).mono ?_; rintro e w1 ⟨rfl, hb1⟩)
    | (refine wpList_make_full _ rfl (.tmp 12) (.tmp 12) 24 rfl w1.heap.size 5 i (.int .u8 0) 1 UT.ht UT.hi UT.hz UT.h1 .i64 .i64 _ _ L rfl rfl hLI hLI (by rw [UT.h2]; omega) (by unfold maxLen; omega) (Nat.le_refl _) ?_; intro w2 hown2 hg2))
  have hb2 : Below w.heap.size w w2 := hb1.grown hg2 hb1.size (fun k hk => by cases hk)
  have hown3 : w2.ownsRow w1.heap.size 5 1 (.slice (some ⟨w1.heap.size, 0, none⟩) L L) L (bc (fil cb 0 L)) := by
    have e : (madeCells (Value.int .u8 0).cells (L * 1)).toList = bc (fil cb 0 L) := by
      rw [fil_zero, Nat.mul_one]
      show (madeCells #[Value.int .u8 0] L).toList = _
      rw [toList_madeCells_one]
      simp [bc]
    rw [← e]
    exact hown2
  have hgl : w1.heap.size < w2.heap.size := (hown3.lt w1.heap.size rfl).2
  have hw1 : w.heap.size ≤ w1.heap.size := hb1.size
  generalize w1.heap.size = g at hown3 hgl hw1 ⊢
  clear hown2 hg2 hb1
  go_loopw [6] (fun iv wr => ∃ k : Nat, k ≤ L ∧ iv = .int .i64 k ∧ wr.ownsRow g 5 1 (.slice (some ⟨g, 0, none⟩) L L) L (bc (fil cb k L)) ∧ Below w.heap.size w wr) (fun i _ => L - (intOf i).toNat)
  case atStart => exact ⟨0, by omega, rfl, hown3, hb2⟩
  case round =>
    obtain ⟨k, hk, rfl, hown, hbel⟩ := hrel
    clear hown3 hb2 hgl
    by_cases hlt : k < L
    · have c1 : wr.cell? ⟨g, k, none⟩ = some (.int .u8 0) := by rw [hown.cellAt k (by omega), fil_get cb k L hlt]
      have hfr := hown.frozenAt k
      have hst := hown.stored k (.int .u8 (cb.toNat : Int))
      rw [fil_set cb k L hlt, ← HZ.out] at hst
      have HST := Lib.hid hst
      have HB3 := Lib.hid (hbel.setCell (p := ⟨g, k, none⟩) hw1 (.int .u8 z))
      clear hst hown hbel
      go_wp2
      go_roundw
      case rel => exact ⟨k + 1, by omega, by go_num, HST.out.1, HB3.out⟩
      case measure => simp [intOf]; omega
    · obtain rfl : k = L := by omega
      have hA : Hol wr (some ⟨g, 0, none⟩) (List.replicate k cb) := by
        have := Hol.own hown
        rwa [fil_full] at this
      have hgl : g < wr.heap.size := (hown.lt g rfl).2
      have hln : (List.replicate k cb).length = k := by simp
      obtain ⟨l, hl⟩ : ∃ l, l = List.replicate k cb := ⟨_, rfl⟩
      rw [← hl] at hA hln
      have hTr := HT.out.below hbel
      have HLN := Lib.hid hln
      have HA := Lib.hid hA
      have HTR := Lib.hid hTr
      have HBL := Lib.hid hbel
      clear hl hown hA hln hTr hbel hlt
      have hpad := Lib.hid (p := ∀ W, Hol W (some ⟨g, 0, none⟩) l → Calls Tryd.prog 6 #[.slice (some ⟨g, 0, none⟩) k k] W fun e w' => ∃ gp cap M, e = .returned (.slice (some ⟨gp, 0, none⟩) M cap) ∧ M = k + (9 + zer k) ∧ Below W.heap.size W w') (by
        intro W hW
        have h := padded_any (some ⟨g, 0, none⟩) k l W hW (by have := HLN.out; omega)
        rw [HLN.out] at h
        refine h.mono ?_
        rintro e w' ⟨v, rfl, hv, hb⟩
        obtain ⟨gp, cap, rfl, _, _⟩ := hv.form (by omega)
        exact ⟨gp, cap, _, rfl, rfl, hb⟩)
      have hof := Lib.hid (p := ∀ W, Hol W (some ⟨g, 0, none⟩) l → Tabs W → g < W.heap.size → Calls Tryd.prog 7 #[.slice (some ⟨g, 0, none⟩) k k] W fun e w' => e = .returned (.agg (brr 32 (shaF l)).toArray) ∧ Below W.heap.size W w') (by
        intro W hW hTW hgW
        have h := of_any (some ⟨g, 0, none⟩) k l W hW (by have := HLN.out; omega) (by intro ad e; injection e with e; subst e; exact hgW) (by have := HLN.out; omega) hTW
        rwa [HLN.out] at h)
      have hrf := Lib.hid (p := ∀ W, Hol W (some ⟨g, 0, none⟩) l → Calls Tryd.prog 8 #[.slice (some ⟨g, 0, none⟩) k k] W fun e w' => e = .returned (.agg (brr 32 (shaF l)).toArray) ∧ Below W.heap.size W w') (by
        intro W hW
        have h := ref_of_any (some ⟨g, 0, none⟩) k l W hW (by have := HLN.out; omega)
        rwa [HLN.out] at h)
      obtain ⟨F, hF⟩ : ∃ F, F = shaF l := ⟨_, rfl⟩
      rw [← hF] at hof hrf
      clear hF
      have heq := fun w => run_same w F
      obtain ⟨M, hM⟩ : ∃ M, M = k + (9 + zer k) := ⟨_, rfl⟩
      have hzl := zer_lt k
      have hm1 : ((M : Int) % 64 == 0) = true := by have := pad_whole k; simp; omega
      have hm2 : decide ((k : Int) + 8 < (M : Int)) = true := decide_eq_true (by omega)
      have hm3 : decide ((M : Int) ≤ (k : Int) + 72) = true := decide_eq_true (by omega)
      have hM9 : (M : Int) ≤ 5000 := by omega
      have HMM := Lib.hid hM
      clear hM hzl
      go_wp2_with (first
        | (go_at_call 6; refine (hpad.out _ HA.out).mono ?_; rintro e w5 ⟨gp, cap, M', rfl, hM', hb5⟩; rw [← HMM.out] at hM'; subst hM')
        | (go_at_call 7; refine (hof.out _ (HA.out.below hb5) (HTR.out.below hb5) (Nat.lt_of_lt_of_le hgl hb5.size)).mono ?_; rintro e w6 ⟨rfl, hb6⟩)
        | (go_at_call 8; refine (hrf.out _ ((HA.out.below hb5).below hb6)).mono ?_; rintro e w7 ⟨rfl, hb7⟩))
      go_ret
      have s1 := Nat.le_trans HBL.out.size hb5.size
      exact ⟨rfl, ((HBL.out.trans (hb5.mono HBL.out.size)).trans (hb6.mono s1)).trans (hb7.mono (Nat.le_trans s1 hb6.size))⟩
end Go.Proofs.YtcbojloladkkdaaDoor.shaPads
