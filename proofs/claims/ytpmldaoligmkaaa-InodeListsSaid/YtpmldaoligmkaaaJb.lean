/- The reference's numbers as a block. Conditions: those named. -/
import Derived.Test.YtpmldaoligmkaaaJa
set_option linter.unusedVariables false
set_option maxRecDepth 20000
namespace Go.Proofs.Ytpmldaoligmkaaa
open Go.RowKit

/-- Cells lie where the address says. -/
def HolV (w : World) (A : Option Addr) (n : Nat) (f : Nat → Value) : Prop := ∃ g, A = some ⟨g, 0, none⟩ ∧ ∀ j, j < n → w.cell? ⟨g, j, none⟩ = some (f j)
theorem HolV.below {w w' : World} {A : Option Addr} {n : Nat} {f : Nat → Value} (h : HolV w A n f) (hb : Below w.heap.size w w') : HolV w' A n f := by
  obtain ⟨g, rfl, hc⟩ := h
  exact ⟨g, rfl, fun j hj => (hb.cell (p := ⟨g, j, none⟩) (World.block_lt_of_cell? w _ (hc j hj))).trans (hc j hj)⟩
theorem rput_at (A : Option Addr) (c n : Nat) (l : List UInt8) (hn : l.length = n) (k x : Nat) (hk : k = 1 ∨ k = 2 ∨ k = 4 ∨ k = 8) (hx : x < 256 ^ k) (hl : n ≤ 256) (w : World) (hA : Hol w A l) :
    Calls Try.prog 38 #[.slice A n c, .int .i64 (k : Int), .int .u64 (x : Int)] w fun e w' => ∃ A' c', e = .returned (.tuple #[.slice A' (n + k) c', .int .i64 0]) ∧ Hid (w'.ownsRow w.heap.size 5 1 (.slice A' (n + k) c') (n + k) (bc (l ++ leb x k))) ∧ Hid (Below w.heap.size w w') := by
  have hx64 : x < 18446744073709551616 := by
    rcases hk with rfl | rfl | rfl | rfl
    · have e : (256 : Nat) ^ 1 = 256 := rfl
      omega
    · have e : (256 : Nat) ^ 2 = 65536 := rfl
      omega
    · have e : (256 : Nat) ^ 4 = 4294967296 := rfl
      omega
    · exact hx
  subst hn
  refine (rput_app A c l k x w hA hx64 (Nat.div_eq_of_lt hx) (by omega) (by omega) (by omega) (by rcases hk with rfl | rfl | rfl | rfl; exact .inl rfl; exact .inr (.inl ⟨rfl, rfl⟩); exact .inr (.inr (.inl ⟨rfl, rfl, rfl⟩)); exact .inr (.inr (.inr ⟨rfl, rfl, rfl, rfl⟩)))).mono ?_
  rintro e w' ⟨v, rfl, ho, hb⟩
  obtain ⟨A', c', rfl⟩ := own_sl ho
  exact ⟨A', c', rfl, Lib.hid ho, Lib.hid hb⟩
theorem off_mono (s : Nat → Nat) : ∀ {j k : Nat}, j ≤ k → off s j ≤ off s k
  | j, 0, h => by
    obtain rfl : j = 0 := by omega
    exact Nat.le_refl _
  | j, k + 1, h => by
    by_cases e : j = k + 1
    · rw [e]; exact Nat.le_refl _
    · exact Nat.le_trans (off_mono s (by omega)) (Nat.le_add_right _ _)
set_option maxHeartbeats 1000000 in
theorem rnumbers_any (s : Nat → Nat) (v : Nat → Int) (n : Nat) (AS AV : Option Addr) (cs cv : Nat) (hn : n ≤ 112) (hs : ∀ k, k < n → s k = 1 ∨ s k = 2 ∨ s k = 4 ∨ s k = 8) (hv : ∀ k, k < n → 0 ≤ v k ∧ (v k).toNat < 256 ^ s k) (ho : off s n ≤ 256) (w : World)
    (hS : HolV w AS n fun k => .int .i64 ((s k : Nat) : Int)) (hV : HolV w AV n fun k => .int .u64 (v k)) :
    Calls Try.prog 26 #[.slice AS n cs, .slice AV n cv] w fun e w' => ∃ A c, e = .returned (.slice A 256 c) ∧ Hid (w'.ownsRow w.heap.size 5 1 (.slice A 256 c) 256 (bc (blk s v n))) ∧ Hid (Below w.heap.size w w') := by
  obtain ⟨i, U⟩ := u8_tab
  have HN := Lib.hid hn
  have HS := Lib.hid hs
  have HV := Lib.hid hv
  have HOF := Lib.hid ho
  have HCS := Lib.hid hS
  have HCV := Lib.hid hV
  clear hn hs hv ho hS hV
  go_enter Try.func26, Try.ntmps26
  go_wp2
  go_loopw [5, 6] (fun x y wr => ∃ (k : Nat) (A : Option Addr) (q c : Nat), Hid (k ≤ n) ∧ y = .int .i64 (k : Int) ∧ x = .slice A q c ∧ Hid (off s k = q) ∧ Hid (wr.ownsRow w.heap.size 5 1 (.slice A q c) q (bc (nb s v k))) ∧ Hid (Below w.heap.size w wr)) (fun _ y _ => 112 - (intOf y).toNat)
  case atStart => exact ⟨0, none, 0, 0, Lib.hid (by omega), rfl, rfl, Lib.hid rfl, Lib.hid (World.ownsRow_nil _ _ _ _), Lib.hid (Below.refl _ _)⟩
  case round =>
    obtain ⟨k, A, q, c, HK, rfl, rfl, HQ, HO, HB⟩ := hrel
    have hkw : IntKind.i64.wrap ((k : Int) + 1) = (k : Int) + 1 := by rw [IntKind.wrap_i64]; have := HK.out; have := HN.out; omega
    by_cases hk : k < n
    · have hki : (k : Int) < (n : Int) := by omega
      have hk0 : (0 : Int) ≤ (k : Int) := by omega
      obtain ⟨gs, rfl, hcs⟩ := HCS.out.below HB.out
      obtain ⟨gv, rfl, hcv⟩ := HCV.out.below HB.out
      have c1 := hcs k hk
      have c2 := hcv k hk
      obtain ⟨z, hz⟩ : ∃ z, s k = z := ⟨_, rfl⟩
      obtain ⟨x, hx⟩ : ∃ x : Nat, v k = (x : Int) := ⟨(v k).toNat, by have := (HV.out k hk).1; omega⟩
      dsimp only at c1 c2
      rw [hz] at c1
      rw [hx] at c2
      have hlen : (nb s v k).length = q := by rw [nb_len]; exact HQ.out
      have hq256 : q + z ≤ 256 := by have h1 := off_mono s (show k + 1 ≤ n from hk); have h2 := HOF.out; have h3 : off s (k + 1) = off s k + s k := rfl; have h4 := HQ.out; omega
      have hp := HV.out k hk
      rw [hx, Int.toNat_natCast, hz] at hp
      have HP : Hid (∀ w1, Below wr.heap.size wr w1 → Calls Try.prog 38 #[.slice A q c, .int .i64 (z : Int), .int .u64 (x : Int)] w1 fun e w' => ∃ A' c', e = .returned (.tuple #[.slice A' (q + z) c', .int .i64 0]) ∧ Hid (w'.ownsRow w1.heap.size 5 1 (.slice A' (q + z) c') (q + z) (bc (nb s v k ++ leb x z))) ∧ Hid (Below w1.heap.size w1 w')) :=
        fun w1 hb => rput_at A c q (nb s v k) hlen z x (by rw [← hz]; exact HS.out k hk) hp.2 (by omega) w1 ((Hol.own HO.out).below hb)
      obtain ⟨q2, hq2⟩ : ∃ q2, q + z = q2 := ⟨_, rfl⟩
      rw [hq2] at HP
      have HE := Lib.hid (p := nb s v k ++ leb x z = nb s v (k + 1)) (by rw [nb_snoc, hx, Int.toNat_natCast, hz])
      have HQ2 := Lib.hid (p := off s (k + 1) = q2) (by rw [off, hz, HQ.out]; exact hq2)
      have HKL := Lib.hid hk
      clear hcs hcv hk hz hx hlen hq256 hp hq2
      go_wp2
      go_region_with (go_at_call 38; refine (HP.out _ ((Below.refl _ _).drew)).mono ?_; rintro e w2 ⟨A2, c3, rfl, ho2, hb2⟩
                      have HO2 := Lib.hid (p := w2.ownsRow w.heap.size 5 1 (.slice A2 q2 c3) q2 (bc (nb s v (k + 1)))) (by rw [← HE.out]; exact own_low ho2.out HB.out.drew.size)
                      have HB2 := Lib.hid (p := Below w.heap.size w w2) (below_nxt hb2.out HB.out.drew)
                      clear ho2 hb2)
      all_goals
        go_wp2
        go_roundw
        case rel => exact ⟨k + 1, A2, q2, c3, Lib.hid HKL.out, by go_num, rfl, HQ2, HO2, HB2⟩
        case measure => have := HKL.out; have := HN.out; simp [intOf]; omega
    · obtain rfl : k = n := by have := HK.out; omega
      have hki : ¬ (k : Int) < (k : Int) := by omega
      have HO0 := Lib.hid (p := wr.ownsRow w.heap.size 5 1 (.slice A q c) q (bc (nb s v k ++ List.replicate (q - q) 0))) (by rw [Nat.sub_self]; simpa using HO.out)
      clear hk HO
      go_wp2
      go_loopw [5] (fun x wr => ∃ (A : Option Addr) (m c : Nat), Hid (q ≤ m ∧ m ≤ 256) ∧ x = .slice A m c ∧ Hid (wr.ownsRow w.heap.size 5 1 (.slice A m c) m (bc (nb s v k ++ List.replicate (m - q) 0))) ∧ Hid (Below w.heap.size w wr)) (fun x _ => 256 - (match x with | .slice _ m _ => m | _ => 0))
      case atStart => exact ⟨A, q, c, Lib.hid ⟨Nat.le_refl _, by have := HQ.out; have := HOF.out; omega⟩, rfl, HO0, HB⟩
      case round =>
        clear HO0 HB
        obtain ⟨A, m, c, HM, rfl, HO, HB⟩ := hrel
        by_cases hm : m < 256
        · have hmi : (m : Int) < 256 := by omega
          have HML := Lib.hid hm
          clear hm
          go_wp2_with (at_builtin; refine wpList_app _ rfl _ _ _ rfl 5 i U w.heap.size _ m _ rfl (HO.out.alloc _) (some ⟨wr.heap.size, 0, none⟩) 1 1 [0] rfl rfl (hol_b _ _ 0 0 rfl) (by have := HML.out; omega) (by have := HB.out.size; simp; omega) ?_
                       intro v1 w1 ho1 hg1 hat1
                       obtain ⟨A1, c1, rfl⟩ := own_sl ho1
                       have HO1 := Lib.hid (p := w1.ownsRow w.heap.size 5 1 (.slice A1 (m + 1) c1) (m + 1) (bc (nb s v k ++ List.replicate (m + 1 - q) 0))) (by rw [show m + 1 - q = (m - q) + 1 by have := HM.out; omega, List.replicate_succ', ← List.append_assoc, bc_app]; exact ho1)
                       have HB1 := Lib.hid (p := Below w.heap.size w w1) ((HB.out.alloc HB.out.size _).grown hg1 (by have := HB.out.size; simp; omega) (fun j hj => (HO.out.lt j hj).1))
                       clear ho1 hg1 hat1)
          go_roundw
          case rel => exact ⟨A1, m + 1, c1, Lib.hid (by have := HM.out; have := HML.out; omega), rfl, HO1, HB1⟩
          case measure => have := HML.out; show 256 - (m + 1) < 256 - m; omega
        · obtain rfl : m = 256 := by have := HM.out; omega
          have hmi : ¬ ((256 : Nat) : Int) < 256 := by omega
          have HO2 := Lib.hid (p := wr.ownsRow w.heap.size 5 1 (.slice A 256 c) 256 (bc (blk s v k))) (by unfold blk; rw [HQ.out]; exact HO.out)
          clear hm HO
          go_wp2
          go_ret
          exact ⟨A, c, rfl, HO2, HB⟩
end Go.Proofs.Ytpmldaoligmkaaa
