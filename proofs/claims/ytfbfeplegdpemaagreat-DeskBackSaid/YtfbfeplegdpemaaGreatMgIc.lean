/- Package inode: whether an inode may be; an inode's block, and a list's. Conditions: those named. -/
import Derived.Test.YtfbfeplegdpemaaGreatMgGv
import Derived.Test.YtfbfeplegdpemaaGreatGn
import Derived.Test.YtfbfeplegdpemaaGreatMgCur
set_option linter.unusedVariables false
set_option maxRecDepth 20000
namespace Go.Proofs.YtfbfeplegdpemaaGreat
open Go.RowKit

theorem eight (b0 b1 b2 b3 b4 b5 b6 b7 : Bool) : (b0 = false) ∨ (b0 = true ∧ b1 = false) ∨ (b0 = true ∧ b1 = true ∧ b2 = false) ∨ (b0 = true ∧ b1 = true ∧ b2 = true ∧ b3 = false) ∨ (b0 = true ∧ b1 = true ∧ b2 = true ∧ b3 = true ∧ b4 = true) ∨ (b0 = true ∧ b1 = true ∧ b2 = true ∧ b3 = true ∧ b4 = false ∧ b5 = false) ∨ (b0 = true ∧ b1 = true ∧ b2 = true ∧ b3 = true ∧ b4 = false ∧ b5 = true ∧ b6 = false) ∨ (b0 = true ∧ b1 = true ∧ b2 = true ∧ b3 = true ∧ b4 = false ∧ b5 = true ∧ b6 = true ∧ b7 = false) ∨ (b0 = true ∧ b1 = true ∧ b2 = true ∧ b3 = true ∧ b4 = false ∧ b5 = true ∧ b6 = true ∧ b7 = true) := by
  cases b0
  case false => exact .inl rfl
  cases b1
  case false => exact .inr (.inl ⟨rfl, rfl⟩)
  cases b2
  case false => exact .inr (.inr (.inl ⟨rfl, rfl, rfl⟩))
  cases b3
  case false => exact .inr (.inr (.inr (.inl ⟨rfl, rfl, rfl, rfl⟩)))
  cases b4
  case true => exact .inr (.inr (.inr (.inr (.inl ⟨rfl, rfl, rfl, rfl, rfl⟩))))
  cases b5
  case false => exact .inr (.inr (.inr (.inr (.inr (.inl ⟨rfl, rfl, rfl, rfl, rfl, rfl⟩)))))
  cases b6
  case false => exact .inr (.inr (.inr (.inr (.inr (.inr (.inl ⟨rfl, rfl, rfl, rfl, rfl, rfl, rfl⟩))))))
  cases b7
  case false => exact .inr (.inr (.inr (.inr (.inr (.inr (.inr (.inl ⟨rfl, rfl, rfl, rfl, rfl, rfl, rfl, rfl⟩)))))))
  exact .inr (.inr (.inr (.inr (.inr (.inr (.inr (.inr (⟨rfl, rfl, rfl, rfl, rfl, rfl, rfl, rfl⟩))))))))
set_option maxHeartbeats 2000000 in
theorem imaybe_any (v : Nat → Int) (w : World) : Calls Tryz.prog 73 #[.agg (ncs v).toArray] w fun e w' => e = .returned (.bool (mayB v)) ∧ Below w.heap.size w w' := by
  unfold mayB
  have HSL := Lib.hid (fun (w : World) (g : Nat) (h : Row w g 44 (ncs v)) => areslots_any _ 16 16 _ (by omega) w (hol_ino h))
  have HS1 := Lib.hid (fun (w : World) (g : Nat) (h : w.cell? ⟨g, 0, none⟩ = some (.int .i64 (v 26))) => areslots_any _ 1 1 _ (by omega) w (hol_single h))
  have h26 : slotB (fun _ => v 26) 1 = inB (v 26) 0 255 := by
    rw [slotB_succ]
    exact Bool.true_and _
  rw [h26] at HS1
  have HV := Lib.hid (p := ∀ (w : World) (g : Nat), Row w g 44 (ncs v) → w.cell? ⟨g, 26, none⟩ = some (.int .i64 (v 26))) (fun w g h => by rw [h.cell]; rfl)
  clear h26
  generalize hb7 : inB (v 26) 0 255 = b7 at *
  generalize hb6 : slotB (fun j => v (10 + j)) 16 = b6 at *
  generalize hb5 : inB (v 8) 0 64 = b5
  generalize hb4 : (v 6 == 0) = b4
  have h6 : (v 6 != 0) = !b4 := by rw [← hb4]; rfl
  clear hb4
  generalize hb3 : inB (v 5) 0 32768 = b3
  generalize hb2 : inB (v 4) 0 32768 = b2
  generalize hb1 : inB (v 1) 0 511 = b1
  generalize hb0 : inB (v 0) 1 3 = b0
  have W0 := Lib.hid hb0
  have W1 := Lib.hid hb1
  have W2 := Lib.hid hb2
  have W3 := Lib.hid hb3
  have W5 := Lib.hid hb5
  clear hb0 hb1 hb2 hb3 hb5 hb6 hb7
  rcases eight b0 b1 b2 b3 b4 b5 b6 b7 with ⟨rfl⟩ | ⟨rfl, rfl⟩ | ⟨rfl, rfl, rfl⟩ | ⟨rfl, rfl, rfl, rfl⟩ | ⟨rfl, rfl, rfl, rfl, rfl⟩ | ⟨rfl, rfl, rfl, rfl, rfl, rfl⟩ | ⟨rfl, rfl, rfl, rfl, rfl, rfl, rfl⟩ | ⟨rfl, rfl, rfl, rfl, rfl, rfl, rfl, rfl⟩ | ⟨rfl, rfl, rfl, rfl, rfl, rfl, rfl, rfl⟩
  all_goals
    try simp only [Bool.not_false, Bool.not_true] at h6
    go_enter Tryz.func73, Tryz.ntmps73
    go_wp2_with (first
      | (refine step_box rfl 1 rfl 44 (.tmp 0) rfl (ncs v) rfl ?_; intro g2 w2 hr2 hg2 hb2 hs2
         have R2 := Lib.hid hr2
         have HB2 := Lib.hid hb2
         have c0 : w2.cell? ⟨g2, 0, none⟩ = some (.int .i64 (v 0)) := by rw [R2.out.cell]; rfl
         have c1 : w2.cell? ⟨g2, 1, none⟩ = some (.int .i64 (v 1)) := by rw [R2.out.cell]; rfl
         have c4 : w2.cell? ⟨g2, 4, none⟩ = some (.int .i64 (v 4)) := by rw [R2.out.cell]; rfl
         have c5 : w2.cell? ⟨g2, 5, none⟩ = some (.int .i64 (v 5)) := by rw [R2.out.cell]; rfl
         have c6 : w2.cell? ⟨g2, 6, none⟩ = some (.int .u64 (v 6)) := by rw [R2.out.cell]; rfl
         have c8 : w2.cell? ⟨g2, 8, none⟩ = some (.int .i64 (v 8)) := by rw [R2.out.cell]; rfl
         have c26 := HV.out w2 g2 R2.out
         generalize v 0 = z0 at *
         generalize v 1 = z1 at *
         generalize v 4 = z4 at *
         generalize v 5 = z5 at *
         generalize v 6 = z6 at *
         generalize v 8 = z8 at *
         clear hr2 hb2 hg2 hs2)
      | (go_at_call 102; refine (within_any _ _ _ _).mono ?_; rintro e w' ⟨rfl, rfl⟩; first | rw [W0.out] | rw [W1.out] | rw [W2.out] | rw [W3.out] | rw [W5.out])
      | (go_at_call_of 103 (Value.slice (some ⟨g2, 10, none⟩) 16 16); refine (HSL.out _ _ R2.out).mono ?_; rintro e w' ⟨rfl, rfl⟩)
      | (go_at_call 103; refine (HS1.out _ _ (by simp)).mono ?_; rintro e w' ⟨rfl, rfl⟩))
    go_ret
    first
      | exact ⟨rfl, HB2.out⟩
      | exact ⟨rfl, HB2.out.alloc HB2.out.size _⟩
end Go.Proofs.YtfbfeplegdpemaaGreat
/- Package inode: an inode's block. Conditions: those named. -/
set_option linter.unusedVariables false
set_option maxRecDepth 20000
namespace Go.Proofs.YtfbfeplegdpemaaGreat
open Go.RowKit

/-- Fields put so far. -/
structure PK (W w : World) (g : Nat) (v : Nat → Int) (A : Option Addr) (c n k : Nat) : Prop where
  row : Row w g 44 (ncs v)
  own : w.ownsRow W.heap.size 5 1 (.slice A n c) n (bc (nb sz v k))
  b : Below W.heap.size W w
theorem num_pk {W w : World} {g : Nat} {v : Nat → Int} {A : Option Addr} {c n k : Nat} (m s : Nat) (z : Int) (hz : v k = z) (hs : sz k = s) (hn : off sz k = n) (hm : n + s = m) (hk : s = 1 ∨ s = 2 ∨ s = 4 ∨ s = 8) (hf : 0 ≤ v k ∧ (v k).toNat < 256 ^ sz k) (hl : n ≤ 256) (h : PK W w g v A c n k) :
    Calls Tryz.prog 74 #[.slice A n c, .int .i64 (s : Int), .int .u64 z] w fun e w' => ∃ A' c', e = .returned (.slice A' m c') ∧ Hid (PK W w' g v A' c' m (k + 1)) := by
  subst hs
  have hlen : (nb sz v k).length = n := by rw [nb_len]; exact hn
  have h1 := number_at A c n (nb sz v k) hlen (sz k) m (v k).toNat hk hm hf.2 hl w (Hol.own h.own)
  rw [show (((v k).toNat : Nat) : Int) = z by rw [← hz]; omega] at h1
  refine h1.mono ?_
  rintro e w' ⟨A', c', rfl, ho, hb⟩
  exact ⟨A', c', rfl, Lib.hid ⟨h.row.kept hb.out, own_low ho.out h.b.size, below_nxt hb.out h.b⟩⟩
theorem nb_slots (v : Nat → Int) (k : Nat) : ∀ j, nb sz v (10 + k) ++ nb s2 (fun j => v (10 + k + j)) j = nb sz v (10 + k + j)
  | 0 => List.append_nil _
  | j + 1 => by
    rw [nb, ← List.append_assoc, nb_slots v k j]
    show _ = nb sz v (10 + k + j) ++ leb (v (10 + k + j)).toNat (sz (10 + k + j))
    rw [Nat.add_assoc 10 k j, sz_slot]
    rfl
theorem pack_not (v : Nat → Int) (h : mayB v = false) (w : World) : Calls Tryz.prog 39 #[.agg (ncs v).toArray] w fun e w' => e = .returned (.tuple #[.slice none 0 0, .int .i64 201]) ∧ Below w.heap.size w w' := by
  have i1 := Lib.hid (fun v => info_ncs v)
  have HM := Lib.hid (fun w => imaybe_any v w)
  rw [h] at HM
  clear h
  go_enter Tryz.func39, Tryz.ntmps39
  go_wp2_with (first
    | (refine step_box rfl 1 rfl 44 (.tmp 0) rfl (ncs v) rfl ?_; intro g2 w2 hr2 hg2 hb2 hs2
       have R2 := Lib.hid hr2
       have HB2 := Lib.hid hb2
       clear hr2 hb2 hg2 hs2)
    | (refine step_load rfl 5 rfl 44 (.tmp 1) rfl g2 rfl (ncs v) _ R2.out.all Tryz.underlying44 rfl (i1.out _) ?_)
    | (go_at_call 73; refine (HM.out _).mono ?_; rintro e w3 ⟨rfl, hb3⟩
       have HB3 := Lib.hid (below_nxt hb3 HB2.out)
       clear hb3))
  go_ret2
  exact ⟨rfl, HB3.out⟩
set_option maxHeartbeats 2000000 in
theorem pack_ok (v : Nat → Int) (h : mayB v = true) (hw : Wf v) (w : World) : Calls Tryz.prog 39 #[.agg (ncs v).toArray] w fun e w' => ∃ A c, e = .returned (.tuple #[.slice A 256 c, .int .i64 0]) ∧ Hid (w'.ownsRow w.heap.size 5 1 (.slice A 256 c) 256 (bc (blk sz v 27))) ∧ Hid (Below w.heap.size w w') := by
  have i1 := Lib.hid (fun v => info_ncs v)
  have HM := Lib.hid (fun w => imaybe_any v w)
  rw [h] at HM
  have HF := Lib.hid (May.fits h hw)
  have HMY := Lib.hid ((mayB_iff v).1 h)
  clear h hw
  obtain ⟨z0, hz0⟩ : ∃ z, v 0 = z := ⟨_, rfl⟩
  have bz0 : 0 ≤ z0 ∧ z0 < 4294967296 := by have h1 := HF.out 0 (by omega); rw [hz0] at h1; have h2 : z0.toNat < 256 := h1.2; omega
  have wz0 : IntKind.u64.wrap z0 = z0 := by rw [wrap_64]; omega
  have mz0 : z0 % 18446744073709551616 = z0 := by omega
  have HZ0 := Lib.hid hz0
  obtain ⟨z1, hz1⟩ : ∃ z, v 1 = z := ⟨_, rfl⟩
  have bz1 : 0 ≤ z1 ∧ z1 < 4294967296 := by have h1 := HF.out 1 (by omega); rw [hz1] at h1; have h2 : z1.toNat < 65536 := h1.2; omega
  have wz1 : IntKind.u64.wrap z1 = z1 := by rw [wrap_64]; omega
  have mz1 : z1 % 18446744073709551616 = z1 := by omega
  have HZ1 := Lib.hid hz1
  obtain ⟨z2, hz2⟩ : ∃ z, v 2 = z := ⟨_, rfl⟩
  have bz2 : 0 ≤ z2 ∧ z2 < 4294967296 := by have h1 := HF.out 2 (by omega); rw [hz2] at h1; have h2 : z2.toNat < 4294967296 := h1.2; omega
  have wz2 : IntKind.u64.wrap z2 = z2 := by rw [wrap_64]; omega
  have mz2 : z2 % 18446744073709551616 = z2 := by omega
  have HZ2 := Lib.hid hz2
  obtain ⟨z3, hz3⟩ : ∃ z, v 3 = z := ⟨_, rfl⟩
  have bz3 : 0 ≤ z3 ∧ z3 < 4294967296 := by have h1 := HF.out 3 (by omega); rw [hz3] at h1; have h2 : z3.toNat < 4294967296 := h1.2; omega
  have wz3 : IntKind.u64.wrap z3 = z3 := by rw [wrap_64]; omega
  have mz3 : z3 % 18446744073709551616 = z3 := by omega
  have HZ3 := Lib.hid hz3
  obtain ⟨z4, hz4⟩ : ∃ z, v 4 = z := ⟨_, rfl⟩
  have bz4 : 0 ≤ z4 ∧ z4 < 4294967296 := by have h1 := HF.out 4 (by omega); rw [hz4] at h1; have h2 : z4.toNat < 65536 := h1.2; omega
  have wz4 : IntKind.u64.wrap z4 = z4 := by rw [wrap_64]; omega
  have mz4 : z4 % 18446744073709551616 = z4 := by omega
  have HZ4 := Lib.hid hz4
  obtain ⟨z5, hz5⟩ : ∃ z, v 5 = z := ⟨_, rfl⟩
  have bz5 : 0 ≤ z5 ∧ z5 < 4294967296 := by have h1 := HF.out 5 (by omega); rw [hz5] at h1; have h2 : z5.toNat < 4294967296 := h1.2; omega
  have wz5 : IntKind.u64.wrap z5 = z5 := by rw [wrap_64]; omega
  have mz5 : z5 % 18446744073709551616 = z5 := by omega
  have HZ5 := Lib.hid hz5
  obtain ⟨z6, hz6⟩ : ∃ z, v 6 = z := ⟨_, rfl⟩
  have HZ6 := Lib.hid hz6
  obtain ⟨z7, hz7⟩ : ∃ z, v 7 = z := ⟨_, rfl⟩
  have bz7 : 0 ≤ z7 ∧ z7 < 4294967296 := by have h1 := HF.out 7 (by omega); rw [hz7] at h1; have h2 : z7.toNat < 4294967296 := h1.2; omega
  have wz7 : IntKind.u64.wrap z7 = z7 := by rw [wrap_64]; omega
  have mz7 : z7 % 18446744073709551616 = z7 := by omega
  have HZ7 := Lib.hid hz7
  obtain ⟨z8, hz8⟩ : ∃ z, v 8 = z := ⟨_, rfl⟩
  have bz8 : 0 ≤ z8 ∧ z8 < 4294967296 := by have h1 := HF.out 8 (by omega); rw [hz8] at h1; have h2 : z8.toNat < 65536 := h1.2; omega
  have wz8 : IntKind.u64.wrap z8 = z8 := by rw [wrap_64]; omega
  have mz8 : z8 % 18446744073709551616 = z8 := by omega
  have HZ8 := Lib.hid hz8
  obtain ⟨z9, hz9⟩ : ∃ z, v 9 = z := ⟨_, rfl⟩
  have bz9 : 0 ≤ z9 ∧ z9 < 4294967296 := by have h1 := HF.out 9 (by omega); rw [hz9] at h1; have h2 : z9.toNat < 4294967296 := h1.2; omega
  have wz9 : IntKind.u64.wrap z9 = z9 := by rw [wrap_64]; omega
  have mz9 : z9 % 18446744073709551616 = z9 := by omega
  have HZ9 := Lib.hid hz9
  clear hz0 hz1 hz2 hz3 hz4 hz5 hz6 hz7 hz8 hz9 bz0 bz1 bz2 bz3 bz4 bz5 bz7 bz8 bz9
  go_enter Tryz.func39, Tryz.ntmps39
  go_wp2_with (first
    | (refine step_box rfl 1 rfl 44 (.tmp 0) rfl (ncs v) rfl ?_; intro g2 w2 hr2 hg2 hb2 hs2
       have R2 := Lib.hid hr2
       have HB2 := Lib.hid hb2
       clear hr2 hb2 hg2 hs2)
    | (refine step_load rfl 5 rfl 44 (.tmp 1) rfl g2 rfl (ncs v) _ R2.out.all Tryz.underlying44 rfl (i1.out _) ?_)
    | (go_at_call 73; refine (HM.out _).mono ?_; rintro e w3 ⟨rfl, hb3⟩
       have P0 := Lib.hid (p := PK w w3 g2 v none 0 0 0) ⟨R2.out.kept hb3, World.ownsRow_nil _ _ _ _, below_nxt hb3 HB2.out⟩
       have c0 : w3.cell? ⟨g2, 0, none⟩ = some (.int .i64 z0) := by rw [P0.out.row.cell, ← HZ0.out]; rfl
       clear hb3 R2 HB2 HM))
  refine (num_pk (n := 0) 1 1 z0 HZ0.out rfl rfl rfl (.inl rfl) (HF.out 0 (by omega)) (by omega) P0.out).mono ?_
  rintro e u0 ⟨A1, c1', rfl, P1⟩
  have c1 : u0.cell? ⟨g2, 1, none⟩ = some (.int .i64 z1) := by rw [P1.out.row.cell, ← HZ1.out]; rfl
  clear c0 P0
  go_wp2_with fail
  refine (num_pk (n := 1) 3 2 z1 HZ1.out rfl rfl rfl (.inr (.inl rfl)) (HF.out 1 (by omega)) (by omega) P1.out).mono ?_
  rintro e u1 ⟨A2, c2', rfl, P2⟩
  have c2 : u1.cell? ⟨g2, 2, none⟩ = some (.int .u32 z2) := by rw [P2.out.row.cell, ← HZ2.out]; rfl
  clear c1 P1
  go_wp2_with fail
  refine (num_pk (n := 3) 7 4 z2 HZ2.out rfl rfl rfl (.inr (.inr (.inl rfl))) (HF.out 2 (by omega)) (by omega) P2.out).mono ?_
  rintro e u2 ⟨A3, c3', rfl, P3⟩
  have c3 : u2.cell? ⟨g2, 3, none⟩ = some (.int .u32 z3) := by rw [P3.out.row.cell, ← HZ3.out]; rfl
  clear c2 P2
  go_wp2_with fail
  refine (num_pk (n := 7) 11 4 z3 HZ3.out rfl rfl rfl (.inr (.inr (.inl rfl))) (HF.out 3 (by omega)) (by omega) P3.out).mono ?_
  rintro e u3 ⟨A4, c4', rfl, P4⟩
  have c4 : u3.cell? ⟨g2, 4, none⟩ = some (.int .i64 z4) := by rw [P4.out.row.cell, ← HZ4.out]; rfl
  clear c3 P3
  go_wp2_with fail
  refine (num_pk (n := 11) 13 2 z4 HZ4.out rfl rfl rfl (.inr (.inl rfl)) (HF.out 4 (by omega)) (by omega) P4.out).mono ?_
  rintro e u4 ⟨A5, c5', rfl, P5⟩
  have c5 : u4.cell? ⟨g2, 5, none⟩ = some (.int .i64 z5) := by rw [P5.out.row.cell, ← HZ5.out]; rfl
  clear c4 P4
  go_wp2_with fail
  refine (num_pk (n := 13) 17 4 z5 HZ5.out rfl rfl rfl (.inr (.inr (.inl rfl))) (HF.out 5 (by omega)) (by omega) P5.out).mono ?_
  rintro e u5 ⟨A6, c6', rfl, P6⟩
  have c6 : u5.cell? ⟨g2, 6, none⟩ = some (.int .u64 z6) := by rw [P6.out.row.cell, ← HZ6.out]; rfl
  clear c5 P5
  go_wp2_with fail
  refine (num_pk (n := 17) 25 8 z6 HZ6.out rfl rfl rfl (.inr (.inr (.inr rfl))) (HF.out 6 (by omega)) (by omega) P6.out).mono ?_
  rintro e u6 ⟨A7, c7', rfl, P7⟩
  have c7 : u6.cell? ⟨g2, 7, none⟩ = some (.int .u32 z7) := by rw [P7.out.row.cell, ← HZ7.out]; rfl
  clear c6 P6
  go_wp2_with fail
  refine (num_pk (n := 25) 29 4 z7 HZ7.out rfl rfl rfl (.inr (.inr (.inl rfl))) (HF.out 7 (by omega)) (by omega) P7.out).mono ?_
  rintro e u7 ⟨A8, c8', rfl, P8⟩
  have c8 : u7.cell? ⟨g2, 8, none⟩ = some (.int .i64 z8) := by rw [P8.out.row.cell, ← HZ8.out]; rfl
  clear c7 P7
  go_wp2_with fail
  refine (num_pk (n := 29) 31 2 z8 HZ8.out rfl rfl rfl (.inr (.inl rfl)) (HF.out 8 (by omega)) (by omega) P8.out).mono ?_
  rintro e u8 ⟨A9, c9', rfl, P9⟩
  have c9 : u8.cell? ⟨g2, 9, none⟩ = some (.int .u32 z9) := by rw [P9.out.row.cell, ← HZ9.out]; rfl
  clear c8 P8
  go_wp2_with fail
  refine (num_pk (n := 31) 35 4 z9 HZ9.out rfl rfl rfl (.inr (.inr (.inl rfl))) (HF.out 9 (by omega)) (by omega) P9.out).mono ?_
  rintro e u9 ⟨A10, c10', rfl, P10⟩
  clear c9 P9
  go_wp2_with fail
  refine (putslots_any w.heap.size A10 35 c10' (nb sz v 10) (some ⟨g2, 10, none⟩) 16 16 (fun j => v (10 + j)) 67 rfl (by rw [nb_len]; rfl) (by omega) (fun j hj => HMY.out.2.2.2.2.2.2.1 j hj) u9 P10.out.b.size P10.out.own (hol_ino P10.out.row)).mono ?_
  rintro e u10 ⟨A11, c11', rfl, ho11, hb11⟩
  have P11 := Lib.hid (p := PK w u10 g2 v A11 c11' 67 26) ⟨P10.out.row.kept hb11.out, by have h1 := ho11.out; rw [show nb sz v 10 ++ nb s2 (fun j => v (10 + j)) 16 = nb sz v 26 from nb_slots v 0 16] at h1; exact h1, below_nxt hb11.out P10.out.b⟩
  have c26 : u10.cell? ⟨g2, 26, none⟩ = some (.int .i64 (v 26)) := by rw [P11.out.row.cell]; rfl
  clear ho11 hb11 P10
  go_wp2_with fail
  have P12 := Lib.hid (p := PK w (u10.alloc (.cells #[.int .i64 (v 26)] 3)) g2 v A11 c11' 67 26) ⟨P11.out.row.alloc _, P11.out.own.alloc _, P11.out.b.alloc P11.out.b.size _⟩
  have hh := hol_single (w := u10.alloc (.cells #[.int .i64 (v 26)] 3)) (g := u10.heap.size) (z := v 26) (by simp)
  have hy : 0 ≤ v 26 ∧ v 26 ≤ 255 := HMY.out.2.2.2.2.2.2.2
  refine (putslots_any w.heap.size A11 67 c11' (nb sz v 26) (some ⟨u10.heap.size, 0, none⟩) 1 1 (fun _ => v 26) 69 rfl (by rw [nb_len]; rfl) (by omega) (fun j hj => hy) _ P12.out.b.size P12.out.own hh).mono ?_
  rintro e u11 ⟨A12, c12', rfl, ho12, hb12⟩
  have hb13 := Lib.hid (below_nxt hb12.out P12.out.b)
  have ho13 := Lib.hid (p := u11.ownsRow w.heap.size 5 1 (.slice A12 69 c12') 69 (bc (nb sz v 27))) ho12.out
  clear ho12 hb12 hh c26 P11 P12
  go_wp2_with fail
  refine (whole_any w.heap.size A12 69 c12' (nb sz v 27) (by omega) (by omega) u11 hb13.out.size ho13.out).mono ?_
  rintro e u12 ⟨A14, c14', rfl, ho14, hb14⟩
  go_wp2
  go_ret2
  exact ⟨A14, c14', rfl, ho14, Lib.hid (hb13.out.trans hb14.out)⟩
end Go.Proofs.YtfbfeplegdpemaaGreat
/- Package inode: a list's block; slots that a cursor tells. Conditions: those named. -/
set_option linter.unusedVariables false
set_option maxRecDepth 20000
namespace Go.Proofs.YtfbfeplegdpemaaGreat
open Go.RowKit

theorem packlist_not (f : Nat → Int) (h : slotB f 112 = false) (w : World) : Calls Tryz.prog 85 #[.agg (inl 112 f).toArray] w fun e w' => e = .returned (.tuple #[.slice none 0 0, .int .i64 201]) ∧ Below w.heap.size w w' := by
  have HA := Lib.hid (fun (w : World) (g : Nat) (hr : Row w g 134 (inl 112 f)) => areslots_any _ 112 112 f (by omega) w (hol_112 hr))
  rw [h] at HA
  clear h
  go_enter Tryz.func85, Tryz.ntmps85
  go_wp2_with (first
    | (refine step_box rfl 1 rfl 134 (.tmp 0) rfl (inl 112 f) rfl ?_; intro g2 w2 hr2 hg2 hb2 hs2
       have R2 := Lib.hid hr2
       have HB2 := Lib.hid hb2
       clear hr2 hb2 hg2 hs2)
    | (go_at_call 103; refine (HA.out _ _ R2.out).mono ?_; rintro e w3 ⟨rfl, rfl⟩))
  go_ret2
  exact ⟨rfl, HB2.out⟩
theorem packlist_ok (f : Nat → Int) (h : slotB f 112 = true) (w : World) : Calls Tryz.prog 85 #[.agg (inl 112 f).toArray] w fun e w' => ∃ A c, e = .returned (.tuple #[.slice A 256 c, .int .i64 0]) ∧ Hid (w'.ownsRow w.heap.size 5 1 (.slice A 256 c) 256 (bc (blk s2 f 112))) ∧ Hid (Below w.heap.size w w') := by
  have HA := Lib.hid (fun (w : World) (g : Nat) (hr : Row w g 134 (inl 112 f)) => areslots_any _ 112 112 f (by omega) w (hol_112 hr))
  have HF := Lib.hid ((slotB_iff f 112).1 h)
  rw [h] at HA
  clear h
  go_enter Tryz.func85, Tryz.ntmps85
  go_wp2_with (first
    | (refine step_box rfl 1 rfl 134 (.tmp 0) rfl (inl 112 f) rfl ?_; intro g2 w2 hr2 hg2 hb2 hs2
       have R2 := Lib.hid hr2
       have HB2 := Lib.hid hb2
       clear hr2 hb2 hg2 hs2)
    | (go_at_call 103; refine (HA.out _ _ R2.out).mono ?_; rintro e w3 ⟨rfl, rfl⟩)
    | (go_at_call 75
       refine (putslots_any w.heap.size none 0 0 [] (some ⟨g2, 0, none⟩) 112 112 f 224 rfl rfl (by omega) HF.out _ HB2.out.size (World.ownsRow_nil _ _ _ _) (hol_112 R2.out)).mono ?_
       rintro e w4 ⟨A4, c4, rfl, ho4, hb4⟩
       have HO4 := Lib.hid (p := w4.ownsRow w.heap.size 5 1 (.slice A4 224 c4) 224 (bc (nb s2 f 112))) (by have := ho4.out; rwa [List.nil_append] at this)
       have HB4 := Lib.hid (below_nxt hb4.out HB2.out)
       clear ho4 hb4)
    | (go_at_call 76
       refine (whole_any w.heap.size A4 224 c4 (nb s2 f 112) (by omega) (by omega) _ HB4.out.size HO4.out).mono ?_
       rintro e w5 ⟨A5, c5, rfl, HO5, hb5⟩
       have HB5 := Lib.hid (HB4.out.trans hb5.out)
       clear hb5))
  go_ret2
  exact ⟨A5, c5, rfl, HO5, HB5⟩
/-! What a cursor tells. -/
/-- Only two blocks have changed. -/
structure Two (a b : Nat) (w w' : World) : Prop where
  os : w'.os = w.os
  tape : w'.tape = w.tape
  output : w'.output = w.output
  size : w.heap.size ≤ w'.heap.size
  block : ∀ k, k < w.heap.size → k ≠ a → k ≠ b → w'.heap[k]? = w.heap[k]?
theorem Two.refl (a b : Nat) (w : World) : Two a b w w := ⟨rfl, rfl, rfl, Nat.le_refl _, fun _ _ _ _ => rfl⟩
theorem Two.one {a b : Nat} {w u v : World} (h : Two a b w u) {r : Option Nat} (hg : u.grownBy v r) (hr : r = some a ∨ r = some b ∨ r = none) : Two a b w v := by
  refine ⟨hg.os.trans h.os, hg.tape.trans h.tape, hg.output.trans h.output, Nat.le_trans h.size hg.size, fun k hk ha hb => (hg.block k (Nat.lt_of_lt_of_le hk h.size) ?_).trans (h.block k hk ha hb)⟩
  rcases hr with rfl | rfl | rfl
  · intro e; injection e with e; exact ha e
  · intro e; injection e with e; exact hb e
  · simp
theorem Two.row {a b g : Nat} {w w' : World} {t : TypeId} {cs : List Value} (h : Two a b w w') (hr : Row w g t cs) (ha : g ≠ a) (hb : g ≠ b) : Row w' g t cs := (h.block g hr.lt ha hb).trans hr
theorem Two.below {n a b : Nat} {W w w' : World} (h : Two a b w w') (hb : Below n W w) (hn : n ≤ w.heap.size) (h1 : n ≤ a) (h2 : n ≤ b) : Below n W w' :=
  ⟨h.os.trans hb.os, h.tape.trans hb.tape, h.output.trans hb.output, Nat.le_trans hb.size h.size, fun k hk => (h.block k (Nat.lt_of_lt_of_le hk hn) (by omega) (by omega)).trans (hb.block k hk)⟩
set_option maxHeartbeats 1000000 in
theorem readslots_any (gc g : Nat) (hgc : gc ≠ g) (l : List UInt8) (o m d : Nat) (t : TypeId) (ht : t ≠ 5) (C : Nat → List Value) (hC : ∀ k, k < m → (C k).set (o + k) (.int .i64 ((num ((l.drop (2 * k)).take 2) : Nat) : Int)) = C (k + 1)) (hz : ∀ k, k < m → ∃ z, (C k)[o + k]? = some (.int .i64 z))
    (hm : m ≤ 112) (h2m : 2 * m ≤ l.length) (hl : l.length ≤ 256) (w : World) (hc : Cur w gc l false) (hr : Row w g t (C 0)) :
    Calls Tryz.prog 105 #[.func (.func 79) #[.pointer (some ⟨gc, 0, none⟩)] #[], .slice (some ⟨g, o, none⟩) m d] w fun e w' => e = .returned (.tuple #[]) ∧ Hid (Cur w' gc (l.drop (2 * m)) false) ∧ Hid (Row w' g t (C m)) ∧ Hid (Two gc g w w') := by
  have HC := Lib.hid (p := Cur w gc (l.drop (2 * 0)) false) (by rw [Nat.mul_zero, List.drop_zero]; exact hc)
  have HR := Lib.hid hr
  have HS := Lib.hid hC
  have HZ := Lib.hid hz
  have HM := Lib.hid hm
  have HL := Lib.hid (p := 2 * m ≤ l.length ∧ l.length ≤ 256) ⟨h2m, hl⟩
  have HG := Lib.hid hgc
  have HT := Lib.hid ht
  clear hc hr hC hz hm h2m hl hgc ht
  go_enter Tryz.func105, Tryz.ntmps105
  go_wp2
  go_loopw [7] (fun y wr => ∃ k : Nat, Hid (k ≤ m) ∧ y = .int .i64 (k : Int) ∧ Hid (Cur wr gc (l.drop (2 * k)) false) ∧ Hid (Row wr g t (C k)) ∧ Hid (Two gc g w wr)) (fun y _ => 112 - (intOf y).toNat)
  case atStart => exact ⟨0, Lib.hid (by omega), rfl, HC, HR, Lib.hid (Two.refl _ _ _)⟩
  case round =>
    clear HC HR
    obtain ⟨k, HK, rfl, HC, HR, HW⟩ := hrel
    have hkw : IntKind.i64.wrap ((k : Int) + 1) = (k : Int) + 1 := by rw [IntKind.wrap_i64]; have := HK.out; have := HM.out; omega
    by_cases hkm : k < m
    · have hki : (k : Int) < (m : Int) := by omega
      have hk0 : (0 : Int) ≤ (k : Int) := by omega
      have HKM := Lib.hid hkm
      have HNM := Lib.hid (cnum_at gc (l.drop (2 * k)) 2 (by omega) wr HC.out (by rw [List.length_drop]; have := HL.out; omega) (by rw [List.length_drop]; have := HL.out; omega))
      obtain ⟨x, hx⟩ : ∃ x, num ((l.drop (2 * k)).take 2) = x := ⟨_, rfl⟩
      have hx2 : x < 65536 := by rw [← hx]; exact num_take_lt _ 2
      have hxw : IntKind.i64.wrap (x : Int) = (x : Int) := by rw [IntKind.wrap_i64]; omega
      have HX := Lib.hid hx
      rw [hx] at HNM
      clear hkm hx hx2
      go_wp2_with (go_at_call 79; refine HNM.out.mono ?_; rintro e w2 ⟨rfl, hc2, hg2⟩
                   obtain ⟨z, hz⟩ := HZ.out k HKM.out
                   have HR2 := Lib.hid (HR.out.grown hg2.out (fun e => by injection e with e; have := HG.out; omega))
                   have c2 : w2.cell? ⟨g, o + k, none⟩ = some (.int .i64 z) := by rw [HR2.out.cell, hz]
                   have f2 := HR2.out.free (o + k)
                   have HC2 := Lib.hid (p := Cur w2 gc (l.drop (2 * (k + 1))) false) (by have h9 := hc2.out; rw [List.drop_drop] at h9; exact h9)
                   have HW2 := Lib.hid (HW.out.one hg2.out (.inl rfl))
                   clear hc2 hg2 hz)
      have HR3 := Lib.hid (p := Row (w2.setCell ⟨g, o + k, none⟩ (.int .i64 (x : Int))) g t (C (k + 1))) (by rw [← HS.out k HKM.out, HX.out]; exact HR2.out.put _ _)
      have HC3 := Lib.hid (p := Cur (w2.setCell ⟨g, o + k, none⟩ (.int .i64 (x : Int))) gc (l.drop (2 * (k + 1))) false) (HC2.out.grown (grown_set w2 ⟨g, o + k, none⟩ _) (fun e => by injection e with e; replace e : gc = g := e; have := HG.out; omega) (fun q hq => HR2.out.no8 HT.out q hq))
      have HW3 := Lib.hid (p := Two gc g w (w2.setCell ⟨g, o + k, none⟩ (.int .i64 (x : Int)))) (HW2.out.one (grown_set w2 ⟨g, o + k, none⟩ _) (.inr (.inl rfl)))
      go_roundw
      case rel => exact ⟨k + 1, Lib.hid HKM.out, by go_num, HC3, HR3, HW3⟩
      case measure => have := HKM.out; have := HM.out; simp [intOf]; omega
    · obtain rfl : k = m := by have := HK.out; omega
      have hki : ¬ (k : Int) < (k : Int) := by omega
      clear hkm
      go_wp2
      go_end0
      exact ⟨rfl, HC, HR, HW⟩
end Go.Proofs.YtfbfeplegdpemaaGreat
