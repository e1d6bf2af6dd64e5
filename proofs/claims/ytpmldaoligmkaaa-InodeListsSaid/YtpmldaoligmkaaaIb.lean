/- Package inode: what may be, a number behind bytes, slots behind bytes, a block made whole. Conditions: those named. -/
import Derived.Test.YtpmldaoligmkaaaIa
import Derived.Test.YtpmldaoligmkaaaPut
import Derived.Test.YtpmldaoligmkaaaApp
import Derived.Test.YtpmldaoligmkaaaKept
import Derived.Test.YtpmldaoligmkaaaGz
set_option linter.unusedVariables false
set_option maxRecDepth 20000
namespace Go.Proofs.Ytpmldaoligmkaaa
open Go.RowKit

theorem below_nxt {w u v : World} (hb : Below u.heap.size u v) (ha : Below w.heap.size w u) : Below w.heap.size w v := ha.trans (hb.mono ha.size)
/-- Numbers lie where the address says. -/
def HolN (w : World) (A : Option Addr) (n : Nat) (f : Nat → Int) : Prop := ∃ g o, A = some ⟨g, o, none⟩ ∧ ∀ j, j < n → w.cell? ⟨g, o + j, none⟩ = some (.int .i64 (f j))
theorem HolN.below {w w' : World} {A : Option Addr} {n : Nat} {f : Nat → Int} (h : HolN w A n f) (hb : Below w.heap.size w w') : HolN w' A n f := by
  obtain ⟨g, o, rfl, hc⟩ := h
  exact ⟨g, o, rfl, fun j hj => (hb.cell (p := ⟨g, o + j, none⟩) (World.block_lt_of_cell? w _ (hc j hj))).trans (hc j hj)⟩
theorem hol_ino {w : World} {g : Nat} {v : Nat → Int} (h : Row w g 26 (ncs v)) : HolN w (some ⟨g, 10, none⟩) 16 fun j => v (10 + j) := ⟨g, 10, rfl, fun j hj => by rw [h.cell, ncs_slot v (by omega)]⟩
theorem hol_112 {w : World} {g : Nat} {f : Nat → Int} (h : Row w g 37 (inl 112 f)) : HolN w (some ⟨g, 0, none⟩) 112 f := ⟨g, 0, rfl, fun j hj => by rw [h.cell, Nat.zero_add, inl_get f hj]⟩
theorem hol_single {w : World} {g : Nat} {z : Int} (h : w.cell? ⟨g, 0, none⟩ = some (.int .i64 z)) : HolN w (some ⟨g, 0, none⟩) 1 fun _ => z := ⟨g, 0, rfl, fun j hj => by
  obtain rfl : j = 0 := by omega
  exact h⟩
theorem own_low {w : World} {b b' : Nat} {e : TypeId} {size n : Nat} {v : Value} {xs : List Value} (h : w.ownsRow b e size v n xs) (hb : b' ≤ b) : w.ownsRow b' e size v n xs := by
  refine ⟨h.1, ?_⟩
  rcases h.2 with h0 | ⟨g, cap, cur, h1, h2, h3⟩
  · exact .inl h0
  · exact .inr ⟨g, cap, cur, h1, Nat.le_trans hb h2, h3⟩
theorem within_any (v a b : Int) (w : World) : Calls Try.prog 36 #[.int .i64 v, .int .i64 a, .int .i64 b] w fun e w' => e = .returned (.bool (inB v a b)) ∧ w = w' := by
  unfold inB
  by_cases h0 : a ≤ v
  · rw [decide_eq_true h0, Bool.true_and]
    go_enter Try.func36, Try.ntmps36
    go_wp2
    go_ret
    exact ⟨rfl, rfl⟩
  · rw [decide_eq_false h0, Bool.false_and]
    go_enter Try.func36, Try.ntmps36
    go_wp2
    go_ret
    exact ⟨rfl, rfl⟩
theorem areslots_any (A : Option Addr) (n c : Nat) (f : Nat → Int) (hn : n ≤ 112) (w : World) (hA : HolN w A n f) : Calls Try.prog 33 #[.slice A n c] w fun e w' => e = .returned (.bool (slotB f n)) ∧ w = w' := by
  have HA := Lib.hid hA
  have HN := Lib.hid hn
  clear hA hn
  go_enter Try.func33, Try.ntmps33
  go_wp2
  go_loop [7] (fun y => ∃ k : Nat, k ≤ n ∧ y = .int .i64 (k : Int) ∧ Hid (slotB f k = true)) (fun y => 112 - (intOf y).toNat)
  case atStart => exact ⟨0, by omega, rfl, Lib.hid rfl⟩
  case round =>
    obtain ⟨k, hk, rfl, HS⟩ := hrel
    have hkw : IntKind.i64.wrap ((k : Int) + 1) = (k : Int) + 1 := by rw [IntKind.wrap_i64]; have := HN.out; omega
    by_cases hkn : k < n
    · have hki : (k : Int) < (n : Int) := by omega
      obtain ⟨g, o, rfl, hc⟩ := HA.out
      have ck := hc k hkn
      obtain ⟨z, hz⟩ : ∃ z, f k = z := ⟨_, rfl⟩
      rw [hz] at ck
      have HK := Lib.hid hkn
      cases hb : inB z 0 255
      · have HF := Lib.hid (p := slotB f n = false) (by
          cases h : slotB f n
          · rfl
          · have h1 := (slotB_iff f n).1 h k hkn
            rw [hz] at h1
            rw [(inB_iff z 0 255).2 h1] at hb
            cases hb)
        have HB := Lib.hid hb
        clear hc hk hkn hz hb
        go_wp2_with (go_at_call 36; refine (within_any _ _ _ _).mono ?_; rintro e w' ⟨rfl, rfl⟩; rw [HB.out])
        go_ret
        exact ⟨by rw [HF.out]; rfl, rfl⟩
      · have HS2 := Lib.hid (p := slotB f (k + 1) = true) (by rw [slotB_succ, HS.out, hz]; exact hb)
        have HB := Lib.hid hb
        clear hc hk hkn hz hb
        go_wp2_with (go_at_call 36; refine (within_any _ _ _ _).mono ?_; rintro e w' ⟨rfl, rfl⟩; rw [HB.out])
        go_round
        case rel => exact ⟨k + 1, HK.out, by go_num, HS2⟩
        case measure => have := HK.out; have := HN.out; simp [intOf]; omega
    · obtain rfl : k = n := by omega
      have hki : ¬ (k : Int) < (k : Int) := by omega
      clear hk hkn
      go_wp2
      go_ret
      exact ⟨by rw [HS.out]; rfl, rfl⟩
/-- New bytes. -/
def NewB (w : World) (n : Nat) (l : List UInt8) (e : Ending) (w' : World) : Prop := ∃ A c, e = .returned (.slice A n c) ∧ Hid (w'.ownsRow w.heap.size 5 1 (.slice A n c) n (bc l)) ∧ Hid (Below w.heap.size w w')
theorem number_at (A : Option Addr) (c n : Nat) (l : List UInt8) (hn : l.length = n) (k m : Nat) (x : Nat) (hk : k = 1 ∨ k = 2 ∨ k = 4 ∨ k = 8) (hm : n + k = m) (hx : x < 256 ^ k) (hl : n ≤ 256) (w : World) (hA : Hol w A l) :
    Calls Try.prog 22 #[.slice A n c, .int .i64 (k : Int), .int .u64 (x : Int)] w (NewB w m (l ++ leb x k)) := by
  have hx64 : x < 18446744073709551616 := by
    rcases hk with rfl | rfl | rfl | rfl
    · have e : (256 : Nat) ^ 1 = 256 := rfl
      omega
    · have e : (256 : Nat) ^ 2 = 65536 := rfl
      omega
    · have e : (256 : Nat) ^ 4 = 4294967296 := rfl
      omega
    · exact hx
  subst hn
  have hp := put_any A c l (k : Int) x w hA hx64 (by omega)
  have hr : putR l (k : Int) x = (l ++ leb x k, 0) := by
    unfold putR
    rw [if_neg (by rcases hk with rfl | rfl | rfl | rfl <;> decide), if_neg (by rw [Int.toNat_natCast]; intro h; exact h (Nat.div_eq_of_lt hx)), Int.toNat_natCast]
  rw [hr] at hp
  have HP := Lib.hid hp
  have hlen : (l ++ leb x k).length = m := by rw [List.length_append, leb_len]; exact hm
  clear hp hr hx hx64 hk
  obtain ⟨n, hn⟩ : ∃ n, l.length = n := ⟨_, rfl⟩
  rw [hn] at HP ⊢
  obtain ⟨L, hL⟩ : ∃ L, l ++ leb x k = L := ⟨_, rfl⟩
  rw [hL] at HP hlen ⊢
  clear hn hm hl hA hL
  go_enter Try.func22, Try.ntmps22
  go_wp2_with (go_at_call 37; refine HP.out.mono ?_; rintro e w1 ⟨v, rfl, hown, hb⟩
               replace hown : w1.ownsRow w.heap.size 5 1 v L.length (bc L) := hown
               rw [hlen] at hown
               obtain ⟨A1, c1, rfl⟩ := own_sl hown
               have HO := Lib.hid hown
               have HB := Lib.hid hb
               clear hown hb)
  go_ret
  exact ⟨A1, c1, rfl, HO, HB⟩
theorem nb_snoc (s : Nat → Nat) (v : Nat → Int) (k : Nat) : nb s v (k + 1) = nb s v k ++ leb (v k).toNat (s k) := rfl
theorem putslots_any (B : Nat) (A : Option Addr) (n c : Nat) (l : List UInt8) (S : Option Addr) (m d : Nat) (f : Nat → Int) (p : Nat) (hp : n + 2 * m = p) (hn : l.length = n) (hl : p ≤ 256) (hf : ∀ j, j < m → 0 ≤ f j ∧ f j ≤ 255) (w : World) (hB : B ≤ w.heap.size)
    (hown : w.ownsRow B 5 1 (.slice A n c) n (bc l)) (hS : HolN w S m f) :
    Calls Try.prog 23 #[.slice A n c, .slice S m d] w fun e w' => ∃ A' c', e = .returned (.slice A' p c') ∧ Hid (w'.ownsRow B 5 1 (.slice A' p c') p (bc (l ++ nb s2 f m))) ∧ Hid (Below w.heap.size w w') := by
  have HS := Lib.hid hS
  have HO := Lib.hid hown
  have HB := Lib.hid hB
  have HN := Lib.hid hn
  have HP := Lib.hid hp
  have HL := Lib.hid hl
  have HF := Lib.hid hf
  clear hS hown hB hn hp hl hf
  go_enter Try.func23, Try.ntmps23
  go_wp2
  go_loopw [0, 8] (fun x y wr => ∃ k A' q c', Hid (k ≤ m) ∧ y = .int .i64 (k : Int) ∧ x = .slice A' q c' ∧ Hid (n + 2 * k = q) ∧ Hid (wr.ownsRow B 5 1 (.slice A' q c') q (bc (l ++ nb s2 f k))) ∧ Hid (Below w.heap.size w wr)) (fun _ y _ => 256 - (intOf y).toNat)
  case atStart => exact ⟨0, A, n, c, Lib.hid (by omega), rfl, rfl, Lib.hid (by omega), by rw [nb, List.append_nil]; exact HO, Lib.hid (Below.refl _ _)⟩
  case round =>
    clear HO
    obtain ⟨k, A', q, c', HK, rfl, rfl, HQ, HO, HBW⟩ := hrel
    have hkw : IntKind.i64.wrap ((k : Int) + 1) = (k : Int) + 1 := by rw [IntKind.wrap_i64]; have := HK.out; have := HP.out; have := HL.out; omega
    by_cases hkm : k < m
    · have hki : (k : Int) < (m : Int) := by omega
      have hk0 : (0 : Int) ≤ (k : Int) := by omega
      obtain ⟨gs, os, rfl, hc⟩ := HS.out.below HBW.out
      have ck := hc k hkm
      obtain ⟨x, hx⟩ : ∃ x : Nat, f k = (x : Int) := ⟨(f k).toNat, by have := HF.out k hkm; omega⟩
      rw [hx] at ck
      have hx255 : x < 65536 := by have := HF.out k hkm; omega
      have hxw : IntKind.u64.wrap (x : Int) = (x : Int) := by rw [wrap_64]; omega
      have hxw' : (x : Int) % 18446744073709551616 = (x : Int) := by omega
      obtain ⟨q2, hq2⟩ : ∃ q2, q + 2 = q2 := ⟨_, rfl⟩
      have HN2 := Lib.hid (number_at A' c' q (l ++ nb s2 f k) (by rw [List.length_append, nb_len, off_s2, HN.out]; exact HQ.out) 2 q2 x (by omega) hq2 (by have e : (256 : Nat) ^ 2 = 65536 := rfl; omega) (by have := HP.out; have := HL.out; have := HQ.out; omega) wr (Hol.own HO.out))
      have HQ2 := Lib.hid (p := n + 2 * (k + 1) = q2) (by have := HQ.out; omega)
      have HE := Lib.hid (p := l ++ nb s2 f k ++ leb x 2 = l ++ nb s2 f (k + 1)) (by rw [nb_snoc, hx, Int.toNat_natCast, List.append_assoc]; rfl)
      have HKM := Lib.hid hkm
      clear hkm hc hx hx255 hq2
      go_wp2_with (go_at_call 22; refine HN2.out.mono ?_; rintro e w2 ⟨A2, c2, rfl, HO2, HB2⟩
                   have HO3 := Lib.hid (p := w2.ownsRow B 5 1 (.slice A2 q2 c2) q2 (bc (l ++ nb s2 f (k + 1)))) (by rw [← HE.out]; exact own_low HO2.out (Nat.le_trans HB.out HBW.out.size))
                   have HBW2 := Lib.hid (below_nxt HB2.out HBW.out)
                   clear HO2 HB2)
      go_roundw
      case rel => exact ⟨k + 1, A2, q2, c2, Lib.hid HKM.out, by go_num, rfl, HQ2, HO3, HBW2⟩
      case measure => have := HKM.out; have := HP.out; have := HL.out; simp [intOf]; omega
    · obtain rfl : k = m := by have := HK.out; omega
      obtain rfl : q = p := by have := HQ.out; have := HP.out; omega
      have hki : ¬ (k : Int) < (k : Int) := by omega
      clear hkm
      go_wp2
      go_ret
      exact ⟨A', c', rfl, HO, HBW⟩
theorem int_tab : Try.prog.underlying 3 = some (.int .i64) := Try.underlying3
theorem whole_any (B : Nat) (A : Option Addr) (n c : Nat) (l : List UInt8) (hn0 : 0 < n) (hn : n < 256) (w : World) (hB : B ≤ w.heap.size) (hown : w.ownsRow B 5 1 (.slice A n c) n (bc l)) :
    Calls Try.prog 24 #[.slice A n c] w fun e w' => ∃ A' c', e = .returned (.slice A' 256 c') ∧ Hid (w'.ownsRow B 5 1 (.slice A' 256 c') 256 (bc (l ++ List.replicate (256 - n) 0))) ∧ Hid (Below B w w') := by
  obtain ⟨i, U⟩ := u8_tab
  obtain ⟨m, hm⟩ : ∃ m, 256 - n = m := ⟨_, rfl⟩
  obtain ⟨g, rfl⟩ : ∃ g, A = some ⟨g, 0, none⟩ := by
    rcases hown.2 with ⟨h, _⟩ | ⟨g, cap, cur, h, _⟩
    · injection h with _ h _
      omega
    · injection h with h _ _
      exact ⟨g, h⟩
  have hmw : IntKind.i64.wrap (256 - (n : Int)) = (m : Int) := by rw [IntKind.wrap_i64]; omega
  have HO := Lib.hid hown
  have HB := Lib.hid hB
  have HM := Lib.hid (p := 0 < m ∧ n + m = 256) (by omega)
  rw [hm]
  clear hown hB hn0 hn hm
  go_enter Try.func24, Try.ntmps24
  go_wp2_with (at_builtin
               refine wpList_zeros rfl _ _ _ _ rfl 5 i U int_tab B g n m c (bc l) rfl rfl HO.out HM.out.1 (by have := HM.out; omega) HB.out ?_
               intro g' c' w' ho' hg'
               rw [HM.out.2] at ho'
               rw [HM.out.2]
               have HO2 := Lib.hid (p := w'.ownsRow B 5 1 (.slice (some ⟨g', 0, none⟩) 256 c') 256 (bc (l ++ List.replicate m 0))) (by rw [bc_app, show bc (List.replicate m 0) = List.replicate m (Value.int .u8 0) by simp [bc]]; exact ho')
               have HB2 := Lib.hid (p := Below B w w') ((Below.refl B w).grown hg' HB.out (fun q hq => (HO.out.lt q hq).1))
               clear ho' hg')
  go_ret
  exact ⟨some ⟨g', 0, none⟩, c', rfl, HO2, HB2⟩
end Go.Proofs.Ytpmldaoligmkaaa
