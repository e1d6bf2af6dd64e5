/- Package inode: what may be, a number behind bytes, slots behind bytes, a block made whole. Conditions: those named. -/
import Derived.Test.YtfbfeplegdpemaaGreatMgRBy
import Derived.Test.YtfbfeplegdpemaaGreatMgGv
import Derived.Test.YtfbfeplegdpemaaGreatMgGx
import Derived.Test.YtfbfeplegdpemaaGreatMgMem
import Derived.Test.YtfbfeplegdpemaaGreatMgGp
set_option linter.unusedVariables false
set_option maxRecDepth 20000
namespace Go.Proofs.YtfbfeplegdpemaaGreat
open Go.RowKit

/-- Numbers lie where the address says. -/
def HolN (w : World) (A : Option Addr) (n : Nat) (f : Nat → Int) : Prop := ∃ g o, A = some ⟨g, o, none⟩ ∧ ∀ j, j < n → w.cell? ⟨g, o + j, none⟩ = some (.int .i64 (f j))
theorem HolN.below {w w' : World} {A : Option Addr} {n : Nat} {f : Nat → Int} (h : HolN w A n f) (hb : Below w.heap.size w w') : HolN w' A n f := by
  obtain ⟨g, o, rfl, hc⟩ := h
  exact ⟨g, o, rfl, fun j hj => (hb.cell (p := ⟨g, o + j, none⟩) (World.block_lt_of_cell? w _ (hc j hj))).trans (hc j hj)⟩
theorem hol_ino {w : World} {g : Nat} {v : Nat → Int} (h : Row w g 44 (ncs v)) : HolN w (some ⟨g, 10, none⟩) 16 fun j => v (10 + j) := ⟨g, 10, rfl, fun j hj => by rw [h.cell, ncs_slot v (by omega)]⟩
theorem hol_112 {w : World} {g : Nat} {f : Nat → Int} (h : Row w g 134 (inl 112 f)) : HolN w (some ⟨g, 0, none⟩) 112 f := ⟨g, 0, rfl, fun j hj => by rw [h.cell, Nat.zero_add, inl_get f hj]⟩
theorem hol_single {w : World} {g : Nat} {z : Int} (h : w.cell? ⟨g, 0, none⟩ = some (.int .i64 z)) : HolN w (some ⟨g, 0, none⟩) 1 fun _ => z := ⟨g, 0, rfl, fun j hj => by
  obtain rfl : j = 0 := by omega
  exact h⟩
theorem own_low {w : World} {b b' : Nat} {e : TypeId} {size n : Nat} {v : Value} {xs : List Value} (h : w.ownsRow b e size v n xs) (hb : b' ≤ b) : w.ownsRow b' e size v n xs := by
  refine ⟨h.1, ?_⟩
  rcases h.2 with h0 | ⟨g, cap, cur, h1, h2, h3⟩
  · exact .inl h0
  · exact .inr ⟨g, cap, cur, h1, Nat.le_trans hb h2, h3⟩
theorem within_any (v a b : Int) (w : World) : Calls Tryz.prog 102 #[.int .i64 v, .int .i64 a, .int .i64 b] w fun e w' => e = .returned (.bool (inB v a b)) ∧ w = w' := by
  unfold inB
  by_cases h0 : a ≤ v
  · rw [decide_eq_true h0, Bool.true_and]
    go_enter Tryz.func102, Tryz.ntmps102
    go_wp2
    go_ret
    exact ⟨rfl, rfl⟩
  · rw [decide_eq_false h0, Bool.false_and]
    go_enter Tryz.func102, Tryz.ntmps102
    go_wp2
    go_ret
    exact ⟨rfl, rfl⟩
theorem areslots_any (A : Option Addr) (n c : Nat) (f : Nat → Int) (hn : n ≤ 112) (w : World) (hA : HolN w A n f) : Calls Tryz.prog 103 #[.slice A n c] w fun e w' => e = .returned (.bool (slotB f n)) ∧ w = w' := by
  have HA := Lib.hid hA
  have HN := Lib.hid hn
  clear hA hn
  go_enter Tryz.func103, Tryz.ntmps103
  go_wp2
  go_loop [7] (fun y => ∃ k : Nat, k ≤ n ∧ y = .int .i64 (k : Int) ∧ Hid (slotB f k = true)) (fun y => 112 - (intOf y).toNat)
  case atStart => exact ⟨0, by omega, rfl, Lib.hid rfl⟩
  case round =>
    obtain ⟨k, hk, rfl, HS⟩ := hrel
    have hkw : IntKind.i64.wrap ((k : Int) + 1) = (k : Int) + 1 := by rw [IntKind.wrap_i64]; have := HN.out; omega
    by_cases hkn : k < n
    · have hki : (k : Int) < (n : Int) := by omega
      obtain ⟨g, o, rfl, hc⟩ := HA.out
      have ck := hc k hkn
      obtain ⟨z, hz⟩ : ∃ z, f k = z := ⟨_, rfl⟩
      rw [hz] at ck
      have HK := Lib.hid hkn
      cases hb : inB z 0 255
      · have HF := Lib.hid (p := slotB f n = false) (by
          cases h : slotB f n
          · rfl
          · have h1 := (slotB_iff f n).1 h k hkn
            rw [hz] at h1
            rw [(inB_iff z 0 255).2 h1] at hb
            cases hb)
        have HB := Lib.hid hb
        clear hc hk hkn hz hb
        go_wp2_with (go_at_call 102; refine (within_any _ _ _ _).mono ?_; rintro e w' ⟨rfl, rfl⟩; rw [HB.out])
        go_ret
        exact ⟨by rw [HF.out]; rfl, rfl⟩
      · have HS2 := Lib.hid (p := slotB f (k + 1) = true) (by rw [slotB_succ, HS.out, hz]; exact hb)
        have HB := Lib.hid hb
        clear hc hk hkn hz hb
        go_wp2_with (go_at_call 102; refine (within_any _ _ _ _).mono ?_; rintro e w' ⟨rfl, rfl⟩; rw [HB.out])
        go_round
        case rel => exact ⟨k + 1, HK.out, by go_num, HS2⟩
        case measure => have := HK.out; have := HN.out; simp [intOf]; omega
    · obtain rfl : k = n := by omega
      have hki : ¬ (k : Int) < (k : Int) := by omega
      clear hk hkn
      go_wp2
      go_ret
      exact ⟨by rw [HS.out]; rfl, rfl⟩
/-- New bytes. -/
def NewBi (w : World) (n : Nat) (l : List UInt8) (e : Ending) (w' : World) : Prop := ∃ A c, e = .returned (.slice A n c) ∧ Hid (w'.ownsRow w.heap.size 5 1 (.slice A n c) n (bc l)) ∧ Hid (Below w.heap.size w w')
theorem number_at (A : Option Addr) (c n : Nat) (l : List UInt8) (hn : l.length = n) (k m : Nat) (x : Nat) (hk : k = 1 ∨ k = 2 ∨ k = 4 ∨ k = 8) (hm : n + k = m) (hx : x < 256 ^ k) (hl : n ≤ 256) (w : World) (hA : Hol w A l) :
    Calls Tryz.prog 74 #[.slice A n c, .int .i64 (k : Int), .int .u64 (x : Int)] w (NewBi w m (l ++ leb x k)) := by
  have hx64 : x < 18446744073709551616 := by
    rcases hk with rfl | rfl | rfl | rfl
    · have e : (256 : Nat) ^ 1 = 256 := rfl
      omega
    · have e : (256 : Nat) ^ 2 = 65536 := rfl
      omega
    · have e : (256 : Nat) ^ 4 = 4294967296 := rfl
      omega
    · exact hx
  subst hn
  have hp := put_any A c l (k : Int) x w hA hx64 (by omega)
  have hr : putR l (k : Int) x = (l ++ leb x k, 0) := by
    unfold putR
    rw [if_neg (by rcases hk with rfl | rfl | rfl | rfl <;> decide), if_neg (by rw [Int.toNat_natCast]; intro h; exact h (Nat.div_eq_of_lt hx)), Int.toNat_natCast]
  rw [hr] at hp
  have HP := Lib.hid hp
  have hlen : (l ++ leb x k).length = m := by rw [List.length_append, leb_len]; exact hm
  clear hp hr hx hx64 hk
  obtain ⟨n, hn⟩ : ∃ n, l.length = n := ⟨_, rfl⟩
  rw [hn] at HP ⊢
  obtain ⟨L, hL⟩ : ∃ L, l ++ leb x k = L := ⟨_, rfl⟩
  rw [hL] at HP hlen ⊢
  clear hn hm hl hA hL
  go_enter Tryz.func74, Tryz.ntmps74
  go_wp2_with (go_at_call 104; refine HP.out.mono ?_; rintro e w1 ⟨v, rfl, hown, hb⟩
               replace hown : w1.ownsRow w.heap.size 5 1 v L.length (bc L) := hown
               rw [hlen] at hown
               obtain ⟨A1, c1, rfl⟩ := own_sl hown
               have HO := Lib.hid hown
               have HB := Lib.hid hb
               clear hown hb)
  go_ret
  exact ⟨A1, c1, rfl, HO, HB⟩
theorem nb_snoc (s : Nat → Nat) (v : Nat → Int) (k : Nat) : nb s v (k + 1) = nb s v k ++ leb (v k).toNat (s k) := rfl
theorem putslots_any (B : Nat) (A : Option Addr) (n c : Nat) (l : List UInt8) (S : Option Addr) (m d : Nat) (f : Nat → Int) (p : Nat) (hp : n + 2 * m = p) (hn : l.length = n) (hl : p ≤ 256) (hf : ∀ j, j < m → 0 ≤ f j ∧ f j ≤ 255) (w : World) (hB : B ≤ w.heap.size)
    (hown : w.ownsRow B 5 1 (.slice A n c) n (bc l)) (hS : HolN w S m f) :
    Calls Tryz.prog 75 #[.slice A n c, .slice S m d] w fun e w' => ∃ A' c', e = .returned (.slice A' p c') ∧ Hid (w'.ownsRow B 5 1 (.slice A' p c') p (bc (l ++ nb s2 f m))) ∧ Hid (Below w.heap.size w w') := by
  have HS := Lib.hid hS
  have HO := Lib.hid hown
  have HB := Lib.hid hB
  have HN := Lib.hid hn
  have HP := Lib.hid hp
  have HL := Lib.hid hl
  have HF := Lib.hid hf
  clear hS hown hB hn hp hl hf
  go_enter Tryz.func75, Tryz.ntmps75
  go_wp2
  go_loopw [0, 8] (fun x y wr => ∃ k A' q c', Hid (k ≤ m) ∧ y = .int .i64 (k : Int) ∧ x = .slice A' q c' ∧ Hid (n + 2 * k = q) ∧ Hid (wr.ownsRow B 5 1 (.slice A' q c') q (bc (l ++ nb s2 f k))) ∧ Hid (Below w.heap.size w wr)) (fun _ y _ => 256 - (intOf y).toNat)
  case atStart => exact ⟨0, A, n, c, Lib.hid (by omega), rfl, rfl, Lib.hid (by omega), by rw [nb, List.append_nil]; exact HO, Lib.hid (Below.refl _ _)⟩
  case round =>
    clear HO
    obtain ⟨k, A', q, c', HK, rfl, rfl, HQ, HO, HBW⟩ := hrel
    have hkw : IntKind.i64.wrap ((k : Int) + 1) = (k : Int) + 1 := by rw [IntKind.wrap_i64]; have := HK.out; have := HP.out; have := HL.out; omega
    by_cases hkm : k < m
    · have hki : (k : Int) < (m : Int) := by omega
      have hk0 : (0 : Int) ≤ (k : Int) := by omega
      obtain ⟨gs, os, rfl, hc⟩ := HS.out.below HBW.out
      have ck := hc k hkm
      obtain ⟨x, hx⟩ : ∃ x : Nat, f k = (x : Int) := ⟨(f k).toNat, by have := HF.out k hkm; omega⟩
      rw [hx] at ck
      have hx255 : x < 65536 := by have := HF.out k hkm; omega
      have hxw : IntKind.u64.wrap (x : Int) = (x : Int) := by rw [wrap_64]; omega
      have hxw' : (x : Int) % 18446744073709551616 = (x : Int) := by omega
      obtain ⟨q2, hq2⟩ : ∃ q2, q + 2 = q2 := ⟨_, rfl⟩
      have HN2 := Lib.hid (number_at A' c' q (l ++ nb s2 f k) (by rw [List.length_append, nb_len, off_s2, HN.out]; exact HQ.out) 2 q2 x (by omega) hq2 (by have e : (256 : Nat) ^ 2 = 65536 := rfl; omega) (by have := HP.out; have := HL.out; have := HQ.out; omega) wr (Hol.own HO.out))
      have HQ2 := Lib.hid (p := n + 2 * (k + 1) = q2) (by have := HQ.out; omega)
      have HE := Lib.hid (p := l ++ nb s2 f k ++ leb x 2 = l ++ nb s2 f (k + 1)) (by rw [nb_snoc, hx, Int.toNat_natCast, List.append_assoc]; rfl)
      have HKM := Lib.hid hkm
      clear hkm hc hx hx255 hq2
      go_wp2_with (go_at_call 74; refine HN2.out.mono ?_; rintro e w2 ⟨A2, c2, rfl, HO2, HB2⟩
                   have HO3 := Lib.hid (p := w2.ownsRow B 5 1 (.slice A2 q2 c2) q2 (bc (l ++ nb s2 f (k + 1)))) (by rw [← HE.out]; exact own_low HO2.out (Nat.le_trans HB.out HBW.out.size))
                   have HBW2 := Lib.hid (below_nxt HB2.out HBW.out)
                   clear HO2 HB2)
      go_roundw
      case rel => exact ⟨k + 1, A2, q2, c2, Lib.hid HKM.out, by go_num, rfl, HQ2, HO3, HBW2⟩
      case measure => have := HKM.out; have := HP.out; have := HL.out; simp [intOf]; omega
    · obtain rfl : k = m := by have := HK.out; omega
      obtain rfl : q = p := by have := HQ.out; have := HP.out; omega
      have hki : ¬ (k : Int) < (k : Int) := by omega
      clear hkm
      go_wp2
      go_ret
      exact ⟨A', c', rfl, HO, HBW⟩
theorem int_tab : Tryz.prog.underlying 3 = some (.int .i64) := Tryz.underlying3
theorem whole_any (B : Nat) (A : Option Addr) (n c : Nat) (l : List UInt8) (hn0 : 0 < n) (hn : n < 256) (w : World) (hB : B ≤ w.heap.size) (hown : w.ownsRow B 5 1 (.slice A n c) n (bc l)) :
    Calls Tryz.prog 76 #[.slice A n c] w fun e w' => ∃ A' c', e = .returned (.slice A' 256 c') ∧ Hid (w'.ownsRow B 5 1 (.slice A' 256 c') 256 (bc (l ++ List.replicate (256 - n) 0))) ∧ Hid (Below B w w') := by
  obtain ⟨i, U⟩ := u8_tab
  obtain ⟨m, hm⟩ : ∃ m, 256 - n = m := ⟨_, rfl⟩
  obtain ⟨g, rfl⟩ : ∃ g, A = some ⟨g, 0, none⟩ := by
    rcases hown.2 with ⟨h, _⟩ | ⟨g, cap, cur, h, _⟩
    · injection h with _ h _
      omega
    · injection h with h _ _
      exact ⟨g, h⟩
  have hmw : IntKind.i64.wrap (256 - (n : Int)) = (m : Int) := by rw [IntKind.wrap_i64]; omega
  have HO := Lib.hid hown
  have HB := Lib.hid hB
  have HM := Lib.hid (p := 0 < m ∧ n + m = 256) (by omega)
  rw [hm]
  clear hown hB hn0 hn hm
  go_enter Tryz.func76, Tryz.ntmps76
  go_wp2_with (at_builtin
               refine wpList_zeros rfl _ _ _ _ rfl 5 i U int_tab B g n m c (bc l) rfl rfl HO.out HM.out.1 (by have := HM.out; omega) HB.out ?_
               intro g' c' w' ho' hg'
               rw [HM.out.2] at ho'
               rw [HM.out.2]
               have HO2 := Lib.hid (p := w'.ownsRow B 5 1 (.slice (some ⟨g', 0, none⟩) 256 c') 256 (bc (l ++ List.replicate m 0))) (by rw [bc_app, show bc (List.replicate m 0) = List.replicate m (Value.int .u8 0) by simp [bc]]; exact ho')
               have HB2 := Lib.hid (p := Below B w w') ((Below.refl B w).grown hg' HB.out (fun q hq => (HO.out.lt q hq).1))
               clear ho' hg')
  go_ret
  exact ⟨some ⟨g', 0, none⟩, c', rfl, HO2, HB2⟩
end Go.Proofs.YtfbfeplegdpemaaGreat
/- Package inode: whether an inode may be; an inode's block, and a list's. Conditions: those named. -/
set_option linter.unusedVariables false
set_option maxRecDepth 20000
namespace Go.Proofs.YtfbfeplegdpemaaGreat
open Go.RowKit

theorem eight (b0 b1 b2 b3 b4 b5 b6 b7 : Bool) : (b0 = false) ∨ (b0 = true ∧ b1 = false) ∨ (b0 = true ∧ b1 = true ∧ b2 = false) ∨ (b0 = true ∧ b1 = true ∧ b2 = true ∧ b3 = false) ∨ (b0 = true ∧ b1 = true ∧ b2 = true ∧ b3 = true ∧ b4 = true) ∨ (b0 = true ∧ b1 = true ∧ b2 = true ∧ b3 = true ∧ b4 = false ∧ b5 = false) ∨ (b0 = true ∧ b1 = true ∧ b2 = true ∧ b3 = true ∧ b4 = false ∧ b5 = true ∧ b6 = false) ∨ (b0 = true ∧ b1 = true ∧ b2 = true ∧ b3 = true ∧ b4 = false ∧ b5 = true ∧ b6 = true ∧ b7 = false) ∨ (b0 = true ∧ b1 = true ∧ b2 = true ∧ b3 = true ∧ b4 = false ∧ b5 = true ∧ b6 = true ∧ b7 = true) := by
  cases b0
  case false => exact .inl rfl
  cases b1
  case false => exact .inr (.inl ⟨rfl, rfl⟩)
  cases b2
  case false => exact .inr (.inr (.inl ⟨rfl, rfl, rfl⟩))
  cases b3
  case false => exact .inr (.inr (.inr (.inl ⟨rfl, rfl, rfl, rfl⟩)))
  cases b4
  case true => exact .inr (.inr (.inr (.inr (.inl ⟨rfl, rfl, rfl, rfl, rfl⟩))))
  cases b5
  case false => exact .inr (.inr (.inr (.inr (.inr (.inl ⟨rfl, rfl, rfl, rfl, rfl, rfl⟩)))))
  cases b6
  case false => exact .inr (.inr (.inr (.inr (.inr (.inr (.inl ⟨rfl, rfl, rfl, rfl, rfl, rfl, rfl⟩))))))
  cases b7
  case false => exact .inr (.inr (.inr (.inr (.inr (.inr (.inr (.inl ⟨rfl, rfl, rfl, rfl, rfl, rfl, rfl, rfl⟩)))))))
  exact .inr (.inr (.inr (.inr (.inr (.inr (.inr (.inr (⟨rfl, rfl, rfl, rfl, rfl, rfl, rfl, rfl⟩))))))))
set_option maxHeartbeats 2000000 in
theorem imaybe_any (v : Nat → Int) (w : World) : Calls Tryz.prog 73 #[.agg (ncs v).toArray] w fun e w' => e = .returned (.bool (mayB v)) ∧ Below w.heap.size w w' := by
  unfold mayB
  have HSL := Lib.hid (fun (w : World) (g : Nat) (h : Row w g 44 (ncs v)) => areslots_any _ 16 16 _ (by omega) w (hol_ino h))
  have HS1 := Lib.hid (fun (w : World) (g : Nat) (h : w.cell? ⟨g, 0, none⟩ = some (.int .i64 (v 26))) => areslots_any _ 1 1 _ (by omega) w (hol_single h))
  have h26 : slotB (fun _ => v 26) 1 = inB (v 26) 0 255 := by
    rw [slotB_succ]
    exact Bool.true_and _
  rw [h26] at HS1
  have HV := Lib.hid (p := ∀ (w : World) (g : Nat), Row w g 44 (ncs v) → w.cell? ⟨g, 26, none⟩ = some (.int .i64 (v 26))) (fun w g h => by rw [h.cell]; rfl)
  clear h26
  generalize hb7 : inB (v 26) 0 255 = b7 at *
  generalize hb6 : slotB (fun j => v (10 + j)) 16 = b6 at *
  generalize hb5 : inB (v 8) 0 64 = b5
  generalize hb4 : (v 6 == 0) = b4
  have h6 : (v 6 != 0) = !b4 := by rw [← hb4]; rfl
  clear hb4
  generalize hb3 : inB (v 5) 0 32768 = b3
  generalize hb2 : inB (v 4) 0 32768 = b2
  generalize hb1 : inB (v 1) 0 511 = b1
  generalize hb0 : inB (v 0) 1 3 = b0
  have W0 := Lib.hid hb0
  have W1 := Lib.hid hb1
  have W2 := Lib.hid hb2
  have W3 := Lib.hid hb3
  have W5 := Lib.hid hb5
  clear hb0 hb1 hb2 hb3 hb5 hb6 hb7
  rcases eight b0 b1 b2 b3 b4 b5 b6 b7 with ⟨rfl⟩ | ⟨rfl, rfl⟩ | ⟨rfl, rfl, rfl⟩ | ⟨rfl, rfl, rfl, rfl⟩ | ⟨rfl, rfl, rfl, rfl, rfl⟩ | ⟨rfl, rfl, rfl, rfl, rfl, rfl⟩ | ⟨rfl, rfl, rfl, rfl, rfl, rfl, rfl⟩ | ⟨rfl, rfl, rfl, rfl, rfl, rfl, rfl, rfl⟩ | ⟨rfl, rfl, rfl, rfl, rfl, rfl, rfl, rfl⟩
  all_goals
    try simp only [Bool.not_false, Bool.not_true] at h6
    go_enter Tryz.func73, Tryz.ntmps73
    go_wp2_with (first
      | (refine step_box rfl 1 rfl 44 (.tmp 0) rfl (ncs v) rfl ?_; intro g2 w2 hr2 hg2 hb2 hs2
         have R2 := Lib.hid hr2
         have HB2 := Lib.hid hb2
         have c0 : w2.cell? ⟨g2, 0, none⟩ = some (.int .i64 (v 0)) := by rw [R2.out.cell]; rfl
         have c1 : w2.cell? ⟨g2, 1, none⟩ = some (.int .i64 (v 1)) := by rw [R2.out.cell]; rfl
         have c4 : w2.cell? ⟨g2, 4, none⟩ = some (.int .i64 (v 4)) := by rw [R2.out.cell]; rfl
         have c5 : w2.cell? ⟨g2, 5, none⟩ = some (.int .i64 (v 5)) := by rw [R2.out.cell]; rfl
         have c6 : w2.cell? ⟨g2, 6, none⟩ = some (.int .u64 (v 6)) := by rw [R2.out.cell]; rfl
         have c8 : w2.cell? ⟨g2, 8, none⟩ = some (.int .i64 (v 8)) := by rw [R2.out.cell]; rfl
         have c26 := HV.out w2 g2 R2.out
         generalize v 0 = z0 at *
         generalize v 1 = z1 at *
         generalize v 4 = z4 at *
         generalize v 5 = z5 at *
         generalize v 6 = z6 at *
         generalize v 8 = z8 at *
         clear hr2 hb2 hg2 hs2)
      | (go_at_call 102; refine (within_any _ _ _ _).mono ?_; rintro e w' ⟨rfl, rfl⟩; first | rw [W0.out] | rw [W1.out] | rw [W2.out] | rw [W3.out] | rw [W5.out])
      | (go_at_call_of 103 (Value.slice (some ⟨g2, 10, none⟩) 16 16); refine (HSL.out _ _ R2.out).mono ?_; rintro e w' ⟨rfl, rfl⟩)
      | (go_at_call 103; refine (HS1.out _ _ (by simp)).mono ?_; rintro e w' ⟨rfl, rfl⟩))
    go_ret
    first
      | exact ⟨rfl, HB2.out⟩
      | exact ⟨rfl, HB2.out.alloc HB2.out.size _⟩
end Go.Proofs.YtfbfeplegdpemaaGreat
/- Package inode: an inode's block. Conditions: those named. -/
set_option linter.unusedVariables false
set_option maxRecDepth 20000
namespace Go.Proofs.YtfbfeplegdpemaaGreat
open Go.RowKit

/-- Fields put so far. -/
structure PK (W w : World) (g : Nat) (v : Nat → Int) (A : Option Addr) (c n k : Nat) : Prop where
  row : Row w g 44 (ncs v)
  own : w.ownsRow W.heap.size 5 1 (.slice A n c) n (bc (nb sz v k))
  b : Below W.heap.size W w
theorem num_pk {W w : World} {g : Nat} {v : Nat → Int} {A : Option Addr} {c n k : Nat} (m s : Nat) (z : Int) (hz : v k = z) (hs : sz k = s) (hn : off sz k = n) (hm : n + s = m) (hk : s = 1 ∨ s = 2 ∨ s = 4 ∨ s = 8) (hf : 0 ≤ v k ∧ (v k).toNat < 256 ^ sz k) (hl : n ≤ 256) (h : PK W w g v A c n k) :
    Calls Tryz.prog 74 #[.slice A n c, .int .i64 (s : Int), .int .u64 z] w fun e w' => ∃ A' c', e = .returned (.slice A' m c') ∧ Hid (PK W w' g v A' c' m (k + 1)) := by
  subst hs
  have hlen : (nb sz v k).length = n := by rw [nb_len]; exact hn
  have h1 := number_at A c n (nb sz v k) hlen (sz k) m (v k).toNat hk hm hf.2 hl w (Hol.own h.own)
  rw [show (((v k).toNat : Nat) : Int) = z by rw [← hz]; omega] at h1
  refine h1.mono ?_
  rintro e w' ⟨A', c', rfl, ho, hb⟩
  exact ⟨A', c', rfl, Lib.hid ⟨h.row.kept hb.out, own_low ho.out h.b.size, below_nxt hb.out h.b⟩⟩
theorem nb_slots (v : Nat → Int) (k : Nat) : ∀ j, nb sz v (10 + k) ++ nb s2 (fun j => v (10 + k + j)) j = nb sz v (10 + k + j)
  | 0 => List.append_nil _
  | j + 1 => by
    rw [nb, ← List.append_assoc, nb_slots v k j]
    show _ = nb sz v (10 + k + j) ++ leb (v (10 + k + j)).toNat (sz (10 + k + j))
    rw [Nat.add_assoc 10 k j, sz_slot]
    rfl
theorem pack_not (v : Nat → Int) (h : mayB v = false) (w : World) : Calls Tryz.prog 39 #[.agg (ncs v).toArray] w fun e w' => e = .returned (.tuple #[.slice none 0 0, .int .i64 201]) ∧ Below w.heap.size w w' := by
  have i1 := Lib.hid (fun v => info_ncs v)
  have HM := Lib.hid (fun w => imaybe_any v w)
  rw [h] at HM
  clear h
  go_enter Tryz.func39, Tryz.ntmps39
  go_wp2_with (first
    | (refine step_box rfl 1 rfl 44 (.tmp 0) rfl (ncs v) rfl ?_; intro g2 w2 hr2 hg2 hb2 hs2
       have R2 := Lib.hid hr2
       have HB2 := Lib.hid hb2
       clear hr2 hb2 hg2 hs2)
    | (refine step_load rfl 5 rfl 44 (.tmp 1) rfl g2 rfl (ncs v) _ R2.out.all Tryz.underlying44 rfl (i1.out _) ?_)
    | (go_at_call 73; refine (HM.out _).mono ?_; rintro e w3 ⟨rfl, hb3⟩
       have HB3 := Lib.hid (below_nxt hb3 HB2.out)
       clear hb3))
  go_ret2
  exact ⟨rfl, HB3.out⟩
set_option maxHeartbeats 2000000 in
theorem pack_ok (v : Nat → Int) (h : mayB v = true) (hw : Wf v) (w : World) : Calls Tryz.prog 39 #[.agg (ncs v).toArray] w fun e w' => ∃ A c, e = .returned (.tuple #[.slice A 256 c, .int .i64 0]) ∧ Hid (w'.ownsRow w.heap.size 5 1 (.slice A 256 c) 256 (bc (blk sz v 27))) ∧ Hid (Below w.heap.size w w') := by
  have i1 := Lib.hid (fun v => info_ncs v)
  have HM := Lib.hid (fun w => imaybe_any v w)
  rw [h] at HM
  have HF := Lib.hid (May.fits h hw)
  have HMY := Lib.hid ((mayB_iff v).1 h)
  clear h hw
  obtain ⟨z0, hz0⟩ : ∃ z, v 0 = z := ⟨_, rfl⟩
  have bz0 : 0 ≤ z0 ∧ z0 < 4294967296 := by have h1 := HF.out 0 (by omega); rw [hz0] at h1; have h2 : z0.toNat < 256 := h1.2; omega
  have wz0 : IntKind.u64.wrap z0 = z0 := by rw [wrap_64]; omega
  have mz0 : z0 % 18446744073709551616 = z0 := by omega
  have HZ0 := Lib.hid hz0
  obtain ⟨z1, hz1⟩ : ∃ z, v 1 = z := ⟨_, rfl⟩
  have bz1 : 0 ≤ z1 ∧ z1 < 4294967296 := by have h1 := HF.out 1 (by omega); rw [hz1] at h1; have h2 : z1.toNat < 65536 := h1.2; omega
  have wz1 : IntKind.u64.wrap z1 = z1 := by rw [wrap_64]; omega
  have mz1 : z1 % 18446744073709551616 = z1 := by omega
  have HZ1 := Lib.hid hz1
  obtain ⟨z2, hz2⟩ : ∃ z, v 2 = z := ⟨_, rfl⟩
  have bz2 : 0 ≤ z2 ∧ z2 < 4294967296 := by have h1 := HF.out 2 (by omega); rw [hz2] at h1; have h2 : z2.toNat < 4294967296 := h1.2; omega
  have wz2 : IntKind.u64.wrap z2 = z2 := by rw [wrap_64]; omega
  have mz2 : z2 % 18446744073709551616 = z2 := by omega
  have HZ2 := Lib.hid hz2
  obtain ⟨z3, hz3⟩ : ∃ z, v 3 = z := ⟨_, rfl⟩
  have bz3 : 0 ≤ z3 ∧ z3 < 4294967296 := by have h1 := HF.out 3 (by omega); rw [hz3] at h1; have h2 : z3.toNat < 4294967296 := h1.2; omega
  have wz3 : IntKind.u64.wrap z3 = z3 := by rw [wrap_64]; omega
  have mz3 : z3 % 18446744073709551616 = z3 := by omega
  have HZ3 := Lib.hid hz3
  obtain ⟨z4, hz4⟩ : ∃ z, v 4 = z := ⟨_, rfl⟩
  have bz4 : 0 ≤ z4 ∧ z4 < 4294967296 := by have h1 := HF.out 4 (by omega); rw [hz4] at h1; have h2 : z4.toNat < 65536 := h1.2; omega
  have wz4 : IntKind.u64.wrap z4 = z4 := by rw [wrap_64]; omega
  have mz4 : z4 % 18446744073709551616 = z4 := by omega
  have HZ4 := Lib.hid hz4
  obtain ⟨z5, hz5⟩ : ∃ z, v 5 = z := ⟨_, rfl⟩
  have bz5 : 0 ≤ z5 ∧ z5 < 4294967296 := by have h1 := HF.out 5 (by omega); rw [hz5] at h1; have h2 : z5.toNat < 4294967296 := h1.2; omega
  have wz5 : IntKind.u64.wrap z5 = z5 := by rw [wrap_64]; omega
  have mz5 : z5 % 18446744073709551616 = z5 := by omega
  have HZ5 := Lib.hid hz5
  obtain ⟨z6, hz6⟩ : ∃ z, v 6 = z := ⟨_, rfl⟩
  have HZ6 := Lib.hid hz6
  obtain ⟨z7, hz7⟩ : ∃ z, v 7 = z := ⟨_, rfl⟩
  have bz7 : 0 ≤ z7 ∧ z7 < 4294967296 := by have h1 := HF.out 7 (by omega); rw [hz7] at h1; have h2 : z7.toNat < 4294967296 := h1.2; omega
  have wz7 : IntKind.u64.wrap z7 = z7 := by rw [wrap_64]; omega
  have mz7 : z7 % 18446744073709551616 = z7 := by omega
  have HZ7 := Lib.hid hz7
  obtain ⟨z8, hz8⟩ : ∃ z, v 8 = z := ⟨_, rfl⟩
  have bz8 : 0 ≤ z8 ∧ z8 < 4294967296 := by have h1 := HF.out 8 (by omega); rw [hz8] at h1; have h2 : z8.toNat < 65536 := h1.2; omega
  have wz8 : IntKind.u64.wrap z8 = z8 := by rw [wrap_64]; omega
  have mz8 : z8 % 18446744073709551616 = z8 := by omega
  have HZ8 := Lib.hid hz8
  obtain ⟨z9, hz9⟩ : ∃ z, v 9 = z := ⟨_, rfl⟩
  have bz9 : 0 ≤ z9 ∧ z9 < 4294967296 := by have h1 := HF.out 9 (by omega); rw [hz9] at h1; have h2 : z9.toNat < 4294967296 := h1.2; omega
  have wz9 : IntKind.u64.wrap z9 = z9 := by rw [wrap_64]; omega
  have mz9 : z9 % 18446744073709551616 = z9 := by omega
  have HZ9 := Lib.hid hz9
  clear hz0 hz1 hz2 hz3 hz4 hz5 hz6 hz7 hz8 hz9 bz0 bz1 bz2 bz3 bz4 bz5 bz7 bz8 bz9
  go_enter Tryz.func39, Tryz.ntmps39
  go_wp2_with (first
    | (refine step_box rfl 1 rfl 44 (.tmp 0) rfl (ncs v) rfl ?_; intro g2 w2 hr2 hg2 hb2 hs2
       have R2 := Lib.hid hr2
       have HB2 := Lib.hid hb2
       clear hr2 hb2 hg2 hs2)
    | (refine step_load rfl 5 rfl 44 (.tmp 1) rfl g2 rfl (ncs v) _ R2.out.all Tryz.underlying44 rfl (i1.out _) ?_)
    | (go_at_call 73; refine (HM.out _).mono ?_; rintro e w3 ⟨rfl, hb3⟩
       have P0 := Lib.hid (p := PK w w3 g2 v none 0 0 0) ⟨R2.out.kept hb3, World.ownsRow_nil _ _ _ _, below_nxt hb3 HB2.out⟩
       have c0 : w3.cell? ⟨g2, 0, none⟩ = some (.int .i64 z0) := by rw [P0.out.row.cell, ← HZ0.out]; rfl
       clear hb3 R2 HB2 HM))
  refine (num_pk (n := 0) 1 1 z0 HZ0.out rfl rfl rfl (.inl rfl) (HF.out 0 (by omega)) (by omega) P0.out).mono ?_
  rintro e u0 ⟨A1, c1', rfl, P1⟩
  have c1 : u0.cell? ⟨g2, 1, none⟩ = some (.int .i64 z1) := by rw [P1.out.row.cell, ← HZ1.out]; rfl
  clear c0 P0
  go_wp2_with fail
  refine (num_pk (n := 1) 3 2 z1 HZ1.out rfl rfl rfl (.inr (.inl rfl)) (HF.out 1 (by omega)) (by omega) P1.out).mono ?_
  rintro e u1 ⟨A2, c2', rfl, P2⟩
  have c2 : u1.cell? ⟨g2, 2, none⟩ = some (.int .u32 z2) := by rw [P2.out.row.cell, ← HZ2.out]; rfl
  clear c1 P1
  go_wp2_with fail
  refine (num_pk (n := 3) 7 4 z2 HZ2.out rfl rfl rfl (.inr (.inr (.inl rfl))) (HF.out 2 (by omega)) (by omega) P2.out).mono ?_
  rintro e u2 ⟨A3, c3', rfl, P3⟩
  have c3 : u2.cell? ⟨g2, 3, none⟩ = some (.int .u32 z3) := by rw [P3.out.row.cell, ← HZ3.out]; rfl
  clear c2 P2
  go_wp2_with fail
  refine (num_pk (n := 7) 11 4 z3 HZ3.out rfl rfl rfl (.inr (.inr (.inl rfl))) (HF.out 3 (by omega)) (by omega) P3.out).mono ?_
  rintro e u3 ⟨A4, c4', rfl, P4⟩
  have c4 : u3.cell? ⟨g2, 4, none⟩ = some (.int .i64 z4) := by rw [P4.out.row.cell, ← HZ4.out]; rfl
  clear c3 P3
  go_wp2_with fail
  refine (num_pk (n := 11) 13 2 z4 HZ4.out rfl rfl rfl (.inr (.inl rfl)) (HF.out 4 (by omega)) (by omega) P4.out).mono ?_
  rintro e u4 ⟨A5, c5', rfl, P5⟩
  have c5 : u4.cell? ⟨g2, 5, none⟩ = some (.int .i64 z5) := by rw [P5.out.row.cell, ← HZ5.out]; rfl
  clear c4 P4
  go_wp2_with fail
  refine (num_pk (n := 13) 17 4 z5 HZ5.out rfl rfl rfl (.inr (.inr (.inl rfl))) (HF.out 5 (by omega)) (by omega) P5.out).mono ?_
  rintro e u5 ⟨A6, c6', rfl, P6⟩
  have c6 : u5.cell? ⟨g2, 6, none⟩ = some (.int .u64 z6) := by rw [P6.out.row.cell, ← HZ6.out]; rfl
  clear c5 P5
  go_wp2_with fail
  refine (num_pk (n := 17) 25 8 z6 HZ6.out rfl rfl rfl (.inr (.inr (.inr rfl))) (HF.out 6 (by omega)) (by omega) P6.out).mono ?_
  rintro e u6 ⟨A7, c7', rfl, P7⟩
  have c7 : u6.cell? ⟨g2, 7, none⟩ = some (.int .u32 z7) := by rw [P7.out.row.cell, ← HZ7.out]; rfl
  clear c6 P6
  go_wp2_with fail
  refine (num_pk (n := 25) 29 4 z7 HZ7.out rfl rfl rfl (.inr (.inr (.inl rfl))) (HF.out 7 (by omega)) (by omega) P7.out).mono ?_
  rintro e u7 ⟨A8, c8', rfl, P8⟩
  have c8 : u7.cell? ⟨g2, 8, none⟩ = some (.int .i64 z8) := by rw [P8.out.row.cell, ← HZ8.out]; rfl
  clear c7 P7
  go_wp2_with fail
  refine (num_pk (n := 29) 31 2 z8 HZ8.out rfl rfl rfl (.inr (.inl rfl)) (HF.out 8 (by omega)) (by omega) P8.out).mono ?_
  rintro e u8 ⟨A9, c9', rfl, P9⟩
  have c9 : u8.cell? ⟨g2, 9, none⟩ = some (.int .u32 z9) := by rw [P9.out.row.cell, ← HZ9.out]; rfl
  clear c8 P8
  go_wp2_with fail
  refine (num_pk (n := 31) 35 4 z9 HZ9.out rfl rfl rfl (.inr (.inr (.inl rfl))) (HF.out 9 (by omega)) (by omega) P9.out).mono ?_
  rintro e u9 ⟨A10, c10', rfl, P10⟩
  clear c9 P9
  go_wp2_with fail
  refine (putslots_any w.heap.size A10 35 c10' (nb sz v 10) (some ⟨g2, 10, none⟩) 16 16 (fun j => v (10 + j)) 67 rfl (by rw [nb_len]; rfl) (by omega) (fun j hj => HMY.out.2.2.2.2.2.2.1 j hj) u9 P10.out.b.size P10.out.own (hol_ino P10.out.row)).mono ?_
  rintro e u10 ⟨A11, c11', rfl, ho11, hb11⟩
  have P11 := Lib.hid (p := PK w u10 g2 v A11 c11' 67 26) ⟨P10.out.row.kept hb11.out, by have h1 := ho11.out; rw [show nb sz v 10 ++ nb s2 (fun j => v (10 + j)) 16 = nb sz v 26 from nb_slots v 0 16] at h1; exact h1, below_nxt hb11.out P10.out.b⟩
  have c26 : u10.cell? ⟨g2, 26, none⟩ = some (.int .i64 (v 26)) := by rw [P11.out.row.cell]; rfl
  clear ho11 hb11 P10
  go_wp2_with fail
  have P12 := Lib.hid (p := PK w (u10.alloc (.cells #[.int .i64 (v 26)] 3)) g2 v A11 c11' 67 26) ⟨P11.out.row.alloc _, P11.out.own.alloc _, P11.out.b.alloc P11.out.b.size _⟩
  have hh := hol_single (w := u10.alloc (.cells #[.int .i64 (v 26)] 3)) (g := u10.heap.size) (z := v 26) (by simp)
  have hy : 0 ≤ v 26 ∧ v 26 ≤ 255 := HMY.out.2.2.2.2.2.2.2
  refine (putslots_any w.heap.size A11 67 c11' (nb sz v 26) (some ⟨u10.heap.size, 0, none⟩) 1 1 (fun _ => v 26) 69 rfl (by rw [nb_len]; rfl) (by omega) (fun j hj => hy) _ P12.out.b.size P12.out.own hh).mono ?_
  rintro e u11 ⟨A12, c12', rfl, ho12, hb12⟩
  have hb13 := Lib.hid (below_nxt hb12.out P12.out.b)
  have ho13 := Lib.hid (p := u11.ownsRow w.heap.size 5 1 (.slice A12 69 c12') 69 (bc (nb sz v 27))) ho12.out
  clear ho12 hb12 hh c26 P11 P12
  go_wp2_with fail
  refine (whole_any w.heap.size A12 69 c12' (nb sz v 27) (by omega) (by omega) u11 hb13.out.size ho13.out).mono ?_
  rintro e u12 ⟨A14, c14', rfl, ho14, hb14⟩
  go_wp2
  go_ret2
  exact ⟨A14, c14', rfl, ho14, Lib.hid (hb13.out.trans hb14.out)⟩
end Go.Proofs.YtfbfeplegdpemaaGreat
