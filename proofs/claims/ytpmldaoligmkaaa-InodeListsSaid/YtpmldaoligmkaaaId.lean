/- Package inode: an inode's block. Conditions: those named. -/
import Derived.Test.YtpmldaoligmkaaaIc
set_option linter.unusedVariables false
set_option maxRecDepth 20000
namespace Go.Proofs.Ytpmldaoligmkaaa
open Go.RowKit

/-- Fields put so far. -/
structure PK (W w : World) (g : Nat) (v : Nat → Int) (A : Option Addr) (c n k : Nat) : Prop where
  row : Row w g 26 (ncs v)
  own : w.ownsRow W.heap.size 5 1 (.slice A n c) n (bc (nb sz v k))
  b : Below W.heap.size W w
theorem num_pk {W w : World} {g : Nat} {v : Nat → Int} {A : Option Addr} {c n k : Nat} (m s : Nat) (z : Int) (hz : v k = z) (hs : sz k = s) (hn : off sz k = n) (hm : n + s = m) (hk : s = 1 ∨ s = 2 ∨ s = 4 ∨ s = 8) (hf : 0 ≤ v k ∧ (v k).toNat < 256 ^ sz k) (hl : n ≤ 256) (h : PK W w g v A c n k) :
    Calls Try.prog 22 #[.slice A n c, .int .i64 (s : Int), .int .u64 z] w fun e w' => ∃ A' c', e = .returned (.slice A' m c') ∧ Hid (PK W w' g v A' c' m (k + 1)) := by
  subst hs
  have hlen : (nb sz v k).length = n := by rw [nb_len]; exact hn
  have h1 := number_at A c n (nb sz v k) hlen (sz k) m (v k).toNat hk hm hf.2 hl w (Hol.own h.own)
  rw [show (((v k).toNat : Nat) : Int) = z by rw [← hz]; omega] at h1
  refine h1.mono ?_
  rintro e w' ⟨A', c', rfl, ho, hb⟩
  exact ⟨A', c', rfl, Lib.hid ⟨h.row.kept hb.out, own_low ho.out h.b.size, below_nxt hb.out h.b⟩⟩
theorem nb_slots (v : Nat → Int) (k : Nat) : ∀ j, nb sz v (10 + k) ++ nb s2 (fun j => v (10 + k + j)) j = nb sz v (10 + k + j)
  | 0 => List.append_nil _
  | j + 1 => by
    rw [nb, ← List.append_assoc, nb_slots v k j]
    show _ = nb sz v (10 + k + j) ++ leb (v (10 + k + j)).toNat (sz (10 + k + j))
    rw [Nat.add_assoc 10 k j, sz_slot]
    rfl
theorem pack_not (v : Nat → Int) (h : mayB v = false) (w : World) : Calls Try.prog 10 #[.agg (ncs v).toArray] w fun e w' => e = .returned (.tuple #[.slice none 0 0, .int .i64 201]) ∧ Below w.heap.size w w' := by
  have i1 := Lib.hid (fun v => info_ncs v)
  have HM := Lib.hid (fun w => maybe_any v w)
  rw [h] at HM
  clear h
  go_enter Try.func10, Try.ntmps10
  go_wp2_with (first
    | (refine step_box rfl 1 rfl 26 (.tmp 0) rfl (ncs v) rfl ?_; intro g2 w2 hr2 hg2 hb2 hs2
       have R2 := Lib.hid hr2
       have HB2 := Lib.hid hb2
       clear hr2 hb2 hg2 hs2)
    | (refine step_load rfl 5 rfl 26 (.tmp 1) rfl g2 rfl (ncs v) _ R2.out.all Try.underlying26 rfl (i1.out _) ?_)
    | (go_at_call 21; refine (HM.out _).mono ?_; rintro e w3 ⟨rfl, hb3⟩
       have HB3 := Lib.hid (below_nxt hb3 HB2.out)
       clear hb3))
  go_ret2
  exact ⟨rfl, HB3.out⟩
set_option maxHeartbeats 2000000 in
theorem pack_ok (v : Nat → Int) (h : mayB v = true) (hw : Wf v) (w : World) : Calls Try.prog 10 #[.agg (ncs v).toArray] w fun e w' => ∃ A c, e = .returned (.tuple #[.slice A 256 c, .int .i64 0]) ∧ Hid (w'.ownsRow w.heap.size 5 1 (.slice A 256 c) 256 (bc (blk sz v 27))) ∧ Hid (Below w.heap.size w w') := by
  have i1 := Lib.hid (fun v => info_ncs v)
  have HM := Lib.hid (fun w => maybe_any v w)
  rw [h] at HM
  have HF := Lib.hid (May.fits h hw)
  have HMY := Lib.hid ((mayB_iff v).1 h)
  clear h hw
  obtain ⟨z0, hz0⟩ : ∃ z, v 0 = z := ⟨_, rfl⟩
  have bz0 : 0 ≤ z0 ∧ z0 < 4294967296 := by have h1 := HF.out 0 (by omega); rw [hz0] at h1; have h2 : z0.toNat < 256 := h1.2; omega
  have wz0 : IntKind.u64.wrap z0 = z0 := by rw [wrap_64]; omega
  have mz0 : z0 % 18446744073709551616 = z0 := by omega
  have HZ0 := Lib.hid hz0
  obtain ⟨z1, hz1⟩ : ∃ z, v 1 = z := ⟨_, rfl⟩
  have bz1 : 0 ≤ z1 ∧ z1 < 4294967296 := by have h1 := HF.out 1 (by omega); rw [hz1] at h1; have h2 : z1.toNat < 65536 := h1.2; omega
  have wz1 : IntKind.u64.wrap z1 = z1 := by rw [wrap_64]; omega
  have mz1 : z1 % 18446744073709551616 = z1 := by omega
  have HZ1 := Lib.hid hz1
  obtain ⟨z2, hz2⟩ : ∃ z, v 2 = z := ⟨_, rfl⟩
  have bz2 : 0 ≤ z2 ∧ z2 < 4294967296 := by have h1 := HF.out 2 (by omega); rw [hz2] at h1; have h2 : z2.toNat < 4294967296 := h1.2; omega
  have wz2 : IntKind.u64.wrap z2 = z2 := by rw [wrap_64]; omega
  have mz2 : z2 % 18446744073709551616 = z2 := by omega
  have HZ2 := Lib.hid hz2
  obtain ⟨z3, hz3⟩ : ∃ z, v 3 = z := ⟨_, rfl⟩
  have bz3 : 0 ≤ z3 ∧ z3 < 4294967296 := by have h1 := HF.out 3 (by omega); rw [hz3] at h1; have h2 : z3.toNat < 4294967296 := h1.2; omega
  have wz3 : IntKind.u64.wrap z3 = z3 := by rw [wrap_64]; omega
  have mz3 : z3 % 18446744073709551616 = z3 := by omega
  have HZ3 := Lib.hid hz3
  obtain ⟨z4, hz4⟩ : ∃ z, v 4 = z := ⟨_, rfl⟩
  have bz4 : 0 ≤ z4 ∧ z4 < 4294967296 := by have h1 := HF.out 4 (by omega); rw [hz4] at h1; have h2 : z4.toNat < 65536 := h1.2; omega
  have wz4 : IntKind.u64.wrap z4 = z4 := by rw [wrap_64]; omega
  have mz4 : z4 % 18446744073709551616 = z4 := by omega
  have HZ4 := Lib.hid hz4
  obtain ⟨z5, hz5⟩ : ∃ z, v 5 = z := ⟨_, rfl⟩
  have bz5 : 0 ≤ z5 ∧ z5 < 4294967296 := by have h1 := HF.out 5 (by omega); rw [hz5] at h1; have h2 : z5.toNat < 4294967296 := h1.2; omega
  have wz5 : IntKind.u64.wrap z5 = z5 := by rw [wrap_64]; omega
  have mz5 : z5 % 18446744073709551616 = z5 := by omega
  have HZ5 := Lib.hid hz5
  obtain ⟨z6, hz6⟩ : ∃ z, v 6 = z := ⟨_, rfl⟩
  have HZ6 := Lib.hid hz6
  obtain ⟨z7, hz7⟩ : ∃ z, v 7 = z := ⟨_, rfl⟩
  have bz7 : 0 ≤ z7 ∧ z7 < 4294967296 := by have h1 := HF.out 7 (by omega); rw [hz7] at h1; have h2 : z7.toNat < 4294967296 := h1.2; omega
  have wz7 : IntKind.u64.wrap z7 = z7 := by rw [wrap_64]; omega
  have mz7 : z7 % 18446744073709551616 = z7 := by omega
  have HZ7 := Lib.hid hz7
  obtain ⟨z8, hz8⟩ : ∃ z, v 8 = z := ⟨_, rfl⟩
  have bz8 : 0 ≤ z8 ∧ z8 < 4294967296 := by have h1 := HF.out 8 (by omega); rw [hz8] at h1; have h2 : z8.toNat < 65536 := h1.2; omega
  have wz8 : IntKind.u64.wrap z8 = z8 := by rw [wrap_64]; omega
  have mz8 : z8 % 18446744073709551616 = z8 := by omega
  have HZ8 := Lib.hid hz8
  obtain ⟨z9, hz9⟩ : ∃ z, v 9 = z := ⟨_, rfl⟩
  have bz9 : 0 ≤ z9 ∧ z9 < 4294967296 := by have h1 := HF.out 9 (by omega); rw [hz9] at h1; have h2 : z9.toNat < 4294967296 := h1.2; omega
  have wz9 : IntKind.u64.wrap z9 = z9 := by rw [wrap_64]; omega
  have mz9 : z9 % 18446744073709551616 = z9 := by omega
  have HZ9 := Lib.hid hz9
  clear hz0 hz1 hz2 hz3 hz4 hz5 hz6 hz7 hz8 hz9 bz0 bz1 bz2 bz3 bz4 bz5 bz7 bz8 bz9
  go_enter Try.func10, Try.ntmps10
  go_wp2_with (first
    | (refine step_box rfl 1 rfl 26 (.tmp 0) rfl (ncs v) rfl ?_; intro g2 w2 hr2 hg2 hb2 hs2
       have R2 := Lib.hid hr2
       have HB2 := Lib.hid hb2
       clear hr2 hb2 hg2 hs2)
    | (refine step_load rfl 5 rfl 26 (.tmp 1) rfl g2 rfl (ncs v) _ R2.out.all Try.underlying26 rfl (i1.out _) ?_)
    | (go_at_call 21; refine (HM.out _).mono ?_; rintro e w3 ⟨rfl, hb3⟩
       have P0 := Lib.hid (p := PK w w3 g2 v none 0 0 0) ⟨R2.out.kept hb3, World.ownsRow_nil _ _ _ _, below_nxt hb3 HB2.out⟩
       have c0 : w3.cell? ⟨g2, 0, none⟩ = some (.int .i64 z0) := by rw [P0.out.row.cell, ← HZ0.out]; rfl
       clear hb3 R2 HB2 HM))
  refine (num_pk (n := 0) 1 1 z0 HZ0.out rfl rfl rfl (.inl rfl) (HF.out 0 (by omega)) (by omega) P0.out).mono ?_
  rintro e u0 ⟨A1, c1', rfl, P1⟩
  have c1 : u0.cell? ⟨g2, 1, none⟩ = some (.int .i64 z1) := by rw [P1.out.row.cell, ← HZ1.out]; rfl
  clear c0 P0
  go_wp2_with fail
  refine (num_pk (n := 1) 3 2 z1 HZ1.out rfl rfl rfl (.inr (.inl rfl)) (HF.out 1 (by omega)) (by omega) P1.out).mono ?_
  rintro e u1 ⟨A2, c2', rfl, P2⟩
  have c2 : u1.cell? ⟨g2, 2, none⟩ = some (.int .u32 z2) := by rw [P2.out.row.cell, ← HZ2.out]; rfl
  clear c1 P1
  go_wp2_with fail
  refine (num_pk (n := 3) 7 4 z2 HZ2.out rfl rfl rfl (.inr (.inr (.inl rfl))) (HF.out 2 (by omega)) (by omega) P2.out).mono ?_
  rintro e u2 ⟨A3, c3', rfl, P3⟩
  have c3 : u2.cell? ⟨g2, 3, none⟩ = some (.int .u32 z3) := by rw [P3.out.row.cell, ← HZ3.out]; rfl
  clear c2 P2
  go_wp2_with fail
  refine (num_pk (n := 7) 11 4 z3 HZ3.out rfl rfl rfl (.inr (.inr (.inl rfl))) (HF.out 3 (by omega)) (by omega) P3.out).mono ?_
  rintro e u3 ⟨A4, c4', rfl, P4⟩
  have c4 : u3.cell? ⟨g2, 4, none⟩ = some (.int .i64 z4) := by rw [P4.out.row.cell, ← HZ4.out]; rfl
  clear c3 P3
  go_wp2_with fail
  refine (num_pk (n := 11) 13 2 z4 HZ4.out rfl rfl rfl (.inr (.inl rfl)) (HF.out 4 (by omega)) (by omega) P4.out).mono ?_
  rintro e u4 ⟨A5, c5', rfl, P5⟩
  have c5 : u4.cell? ⟨g2, 5, none⟩ = some (.int .i64 z5) := by rw [P5.out.row.cell, ← HZ5.out]; rfl
  clear c4 P4
  go_wp2_with fail
  refine (num_pk (n := 13) 17 4 z5 HZ5.out rfl rfl rfl (.inr (.inr (.inl rfl))) (HF.out 5 (by omega)) (by omega) P5.out).mono ?_
  rintro e u5 ⟨A6, c6', rfl, P6⟩
  have c6 : u5.cell? ⟨g2, 6, none⟩ = some (.int .u64 z6) := by rw [P6.out.row.cell, ← HZ6.out]; rfl
  clear c5 P5
  go_wp2_with fail
  refine (num_pk (n := 17) 25 8 z6 HZ6.out rfl rfl rfl (.inr (.inr (.inr rfl))) (HF.out 6 (by omega)) (by omega) P6.out).mono ?_
  rintro e u6 ⟨A7, c7', rfl, P7⟩
  have c7 : u6.cell? ⟨g2, 7, none⟩ = some (.int .u32 z7) := by rw [P7.out.row.cell, ← HZ7.out]; rfl
  clear c6 P6
  go_wp2_with fail
  refine (num_pk (n := 25) 29 4 z7 HZ7.out rfl rfl rfl (.inr (.inr (.inl rfl))) (HF.out 7 (by omega)) (by omega) P7.out).mono ?_
  rintro e u7 ⟨A8, c8', rfl, P8⟩
  have c8 : u7.cell? ⟨g2, 8, none⟩ = some (.int .i64 z8) := by rw [P8.out.row.cell, ← HZ8.out]; rfl
  clear c7 P7
  go_wp2_with fail
  refine (num_pk (n := 29) 31 2 z8 HZ8.out rfl rfl rfl (.inr (.inl rfl)) (HF.out 8 (by omega)) (by omega) P8.out).mono ?_
  rintro e u8 ⟨A9, c9', rfl, P9⟩
  have c9 : u8.cell? ⟨g2, 9, none⟩ = some (.int .u32 z9) := by rw [P9.out.row.cell, ← HZ9.out]; rfl
  clear c8 P8
  go_wp2_with fail
  refine (num_pk (n := 31) 35 4 z9 HZ9.out rfl rfl rfl (.inr (.inr (.inl rfl))) (HF.out 9 (by omega)) (by omega) P9.out).mono ?_
  rintro e u9 ⟨A10, c10', rfl, P10⟩
  clear c9 P9
  go_wp2_with fail
  refine (putslots_any w.heap.size A10 35 c10' (nb sz v 10) (some ⟨g2, 10, none⟩) 16 16 (fun j => v (10 + j)) 67 rfl (by rw [nb_len]; rfl) (by omega) (fun j hj => HMY.out.2.2.2.2.2.2.1 j hj) u9 P10.out.b.size P10.out.own (hol_ino P10.out.row)).mono ?_
  rintro e u10 ⟨A11, c11', rfl, ho11, hb11⟩
  have P11 := Lib.hid (p := PK w u10 g2 v A11 c11' 67 26) ⟨P10.out.row.kept hb11.out, by have h1 := ho11.out; rw [show nb sz v 10 ++ nb s2 (fun j => v (10 + j)) 16 = nb sz v 26 from nb_slots v 0 16] at h1; exact h1, below_nxt hb11.out P10.out.b⟩
  have c26 : u10.cell? ⟨g2, 26, none⟩ = some (.int .i64 (v 26)) := by rw [P11.out.row.cell]; rfl
  clear ho11 hb11 P10
  go_wp2_with fail
  have P12 := Lib.hid (p := PK w (u10.alloc (.cells #[.int .i64 (v 26)] 3)) g2 v A11 c11' 67 26) ⟨P11.out.row.alloc _, P11.out.own.alloc _, P11.out.b.alloc P11.out.b.size _⟩
  have hh := hol_single (w := u10.alloc (.cells #[.int .i64 (v 26)] 3)) (g := u10.heap.size) (z := v 26) (by simp)
  have hy : 0 ≤ v 26 ∧ v 26 ≤ 255 := HMY.out.2.2.2.2.2.2.2
  refine (putslots_any w.heap.size A11 67 c11' (nb sz v 26) (some ⟨u10.heap.size, 0, none⟩) 1 1 (fun _ => v 26) 69 rfl (by rw [nb_len]; rfl) (by omega) (fun j hj => hy) _ P12.out.b.size P12.out.own hh).mono ?_
  rintro e u11 ⟨A12, c12', rfl, ho12, hb12⟩
  have hb13 := Lib.hid (below_nxt hb12.out P12.out.b)
  have ho13 := Lib.hid (p := u11.ownsRow w.heap.size 5 1 (.slice A12 69 c12') 69 (bc (nb sz v 27))) ho12.out
  clear ho12 hb12 hh c26 P11 P12
  go_wp2_with fail
  refine (whole_any w.heap.size A12 69 c12' (nb sz v 27) (by omega) (by omega) u11 hb13.out.size ho13.out).mono ?_
  rintro e u12 ⟨A14, c14', rfl, ho14, hb14⟩
  go_wp2
  go_ret2
  exact ⟨A14, c14', rfl, ho14, Lib.hid (hb13.out.trans hb14.out)⟩
end Go.Proofs.Ytpmldaoligmkaaa
