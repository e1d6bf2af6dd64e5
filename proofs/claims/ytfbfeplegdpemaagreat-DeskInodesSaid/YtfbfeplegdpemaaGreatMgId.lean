/- Package inode: an inode's block. Conditions: those named. -/
import Derived.Test.YtfbfeplegdpemaaGreatMgIa
import Derived.Test.YtfbfeplegdpemaaGreatGn
import Derived.Test.YtfbfeplegdpemaaGreatMgCur
set_option linter.unusedVariables false
set_option maxRecDepth 20000
namespace Go.Proofs.YtfbfeplegdpemaaGreat
open Go.RowKit

/-- Fields put so far. -/
structure PK (W w : World) (g : Nat) (v : Nat → Int) (A : Option Addr) (c n k : Nat) : Prop where
  row : Row w g 44 (ncs v)
  own : w.ownsRow W.heap.size 5 1 (.slice A n c) n (bc (nb sz v k))
  b : Below W.heap.size W w
theorem num_pk {W w : World} {g : Nat} {v : Nat → Int} {A : Option Addr} {c n k : Nat} (m s : Nat) (z : Int) (hz : v k = z) (hs : sz k = s) (hn : off sz k = n) (hm : n + s = m) (hk : s = 1 ∨ s = 2 ∨ s = 4 ∨ s = 8) (hf : 0 ≤ v k ∧ (v k).toNat < 256 ^ sz k) (hl : n ≤ 256) (h : PK W w g v A c n k) :
    Calls Tryz.prog 74 #[.slice A n c, .int .i64 (s : Int), .int .u64 z] w fun e w' => ∃ A' c', e = .returned (.slice A' m c') ∧ Hid (PK W w' g v A' c' m (k + 1)) := by
  subst hs
  have hlen : (nb sz v k).length = n := by rw [nb_len]; exact hn
  have h1 := number_at A c n (nb sz v k) hlen (sz k) m (v k).toNat hk hm hf.2 hl w (Hol.own h.own)
  rw [show (((v k).toNat : Nat) : Int) = z by rw [← hz]; omega] at h1
  refine h1.mono ?_
  rintro e w' ⟨A', c', rfl, ho, hb⟩
  exact ⟨A', c', rfl, Lib.hid ⟨h.row.kept hb.out, own_low ho.out h.b.size, below_nxt hb.out h.b⟩⟩
theorem nb_slots (v : Nat → Int) (k : Nat) : ∀ j, nb sz v (10 + k) ++ nb s2 (fun j => v (10 + k + j)) j = nb sz v (10 + k + j)
  | 0 => List.append_nil _
  | j + 1 => by
    rw [nb, ← List.append_assoc, nb_slots v k j]
    show _ = nb sz v (10 + k + j) ++ leb (v (10 + k + j)).toNat (sz (10 + k + j))
    rw [Nat.add_assoc 10 k j, sz_slot]
    rfl
theorem pack_not (v : Nat → Int) (h : mayB v = false) (w : World) : Calls Tryz.prog 39 #[.agg (ncs v).toArray] w fun e w' => e = .returned (.tuple #[.slice none 0 0, .int .i64 201]) ∧ Below w.heap.size w w' := by
  have i1 := Lib.hid (fun v => info_ncs v)
  have HM := Lib.hid (fun w => imaybe_any v w)
  rw [h] at HM
  clear h
  go_enter Tryz.func39, Tryz.ntmps39
  go_wp2_with (first
    | (refine step_box rfl 1 rfl 44 (.tmp 0) rfl (ncs v) rfl ?_; intro g2 w2 hr2 hg2 hb2 hs2
       have R2 := Lib.hid hr2
       have HB2 := Lib.hid hb2
       clear hr2 hb2 hg2 hs2)
    | (refine step_load rfl 5 rfl 44 (.tmp 1) rfl g2 rfl (ncs v) _ R2.out.all Tryz.underlying44 rfl (i1.out _) ?_)
    | (go_at_call 73; refine (HM.out _).mono ?_; rintro e w3 ⟨rfl, hb3⟩
       have HB3 := Lib.hid (below_nxt hb3 HB2.out)
       clear hb3))
  go_ret2
  exact ⟨rfl, HB3.out⟩
set_option maxHeartbeats 2000000 in
theorem pack_ok (v : Nat → Int) (h : mayB v = true) (hw : Wf v) (w : World) : Calls Tryz.prog 39 #[.agg (ncs v).toArray] w fun e w' => ∃ A c, e = .returned (.tuple #[.slice A 256 c, .int .i64 0]) ∧ Hid (w'.ownsRow w.heap.size 5 1 (.slice A 256 c) 256 (bc (blk sz v 27))) ∧ Hid (Below w.heap.size w w') := by
  have i1 := Lib.hid (fun v => info_ncs v)
  have HM := Lib.hid (fun w => imaybe_any v w)
  rw [h] at HM
  have HF := Lib.hid (May.fits h hw)
  have HMY := Lib.hid ((mayB_iff v).1 h)
  clear h hw
  obtain ⟨z0, hz0⟩ : ∃ z, v 0 = z := ⟨_, rfl⟩
  have bz0 : 0 ≤ z0 ∧ z0 < 4294967296 := by have h1 := HF.out 0 (by omega); rw [hz0] at h1; have h2 : z0.toNat < 256 := h1.2; omega
  have wz0 : IntKind.u64.wrap z0 = z0 := by rw [wrap_64]; omega
  have mz0 : z0 % 18446744073709551616 = z0 := by omega
  have HZ0 := Lib.hid hz0
  obtain ⟨z1, hz1⟩ : ∃ z, v 1 = z := ⟨_, rfl⟩
  have bz1 : 0 ≤ z1 ∧ z1 < 4294967296 := by have h1 := HF.out 1 (by omega); rw [hz1] at h1; have h2 : z1.toNat < 65536 := h1.2; omega
  have wz1 : IntKind.u64.wrap z1 = z1 := by rw [wrap_64]; omega
  have mz1 : z1 % 18446744073709551616 = z1 := by omega
  have HZ1 := Lib.hid hz1
  obtain ⟨z2, hz2⟩ : ∃ z, v 2 = z := ⟨_, rfl⟩
  have bz2 : 0 ≤ z2 ∧ z2 < 4294967296 := by have h1 := HF.out 2 (by omega); rw [hz2] at h1; have h2 : z2.toNat < 4294967296 := h1.2; omega
  have wz2 : IntKind.u64.wrap z2 = z2 := by rw [wrap_64]; omega
  have mz2 : z2 % 18446744073709551616 = z2 := by omega
  have HZ2 := Lib.hid hz2
  obtain ⟨z3, hz3⟩ : ∃ z, v 3 = z := ⟨_, rfl⟩
  have bz3 : 0 ≤ z3 ∧ z3 < 4294967296 := by have h1 := HF.out 3 (by omega); rw [hz3] at h1; have h2 : z3.toNat < 4294967296 := h1.2; omega
  have wz3 : IntKind.u64.wrap z3 = z3 := by rw [wrap_64]; omega
  have mz3 : z3 % 18446744073709551616 = z3 := by omega
  have HZ3 := Lib.hid hz3
  obtain ⟨z4, hz4⟩ : ∃ z, v 4 = z := ⟨_, rfl⟩
  have bz4 : 0 ≤ z4 ∧ z4 < 4294967296 := by have h1 := HF.out 4 (by omega); rw [hz4] at h1; have h2 : z4.toNat < 65536 := h1.2; omega
  have wz4 : IntKind.u64.wrap z4 = z4 := by rw [wrap_64]; omega
  have mz4 : z4 % 18446744073709551616 = z4 := by omega
  have HZ4 := Lib.hid hz4
  obtain ⟨z5, hz5⟩ : ∃ z, v 5 = z := ⟨_, rfl⟩
  have bz5 : 0 ≤ z5 ∧ z5 < 4294967296 := by have h1 := HF.out 5 (by omega); rw [hz5] at h1; have h2 : z5.toNat < 4294967296 := h1.2; omega
  have wz5 : IntKind.u64.wrap z5 = z5 := by rw [wrap_64]; omega
  have mz5 : z5 % 18446744073709551616 = z5 := by omega
  have HZ5 := Lib.hid hz5
  obtain ⟨z6, hz6⟩ : ∃ z, v 6 = z := ⟨_, rfl⟩
  have HZ6 := Lib.hid hz6
  obtain ⟨z7, hz7⟩ : ∃ z, v 7 = z := ⟨_, rfl⟩
  have bz7 : 0 ≤ z7 ∧ z7 < 4294967296 := by have h1 := HF.out 7 (by omega); rw [hz7] at h1; have h2 : z7.toNat < 4294967296 := h1.2; omega
  have wz7 : IntKind.u64.wrap z7 = z7 := by rw [wrap_64]; omega
  have mz7 : z7 % 18446744073709551616 = z7 := by omega
  have HZ7 := Lib.hid hz7
  obtain ⟨z8, hz8⟩ : ∃ z, v 8 = z := ⟨_, rfl⟩
  have bz8 : 0 ≤ z8 ∧ z8 < 4294967296 := by have h1 := HF.out 8 (by omega); rw [hz8] at h1; have h2 : z8.toNat < 65536 := h1.2; omega
  have wz8 : IntKind.u64.wrap z8 = z8 := by rw [wrap_64]; omega
  have mz8 : z8 % 18446744073709551616 = z8 := by omega
  have HZ8 := Lib.hid hz8
  obtain ⟨z9, hz9⟩ : ∃ z, v 9 = z := ⟨_, rfl⟩
  have bz9 : 0 ≤ z9 ∧ z9 < 4294967296 := by have h1 := HF.out 9 (by omega); rw [hz9] at h1; have h2 : z9.toNat < 4294967296 := h1.2; omega
  have wz9 : IntKind.u64.wrap z9 = z9 := by rw [wrap_64]; omega
  have mz9 : z9 % 18446744073709551616 = z9 := by omega
  have HZ9 := Lib.hid hz9
  clear hz0 hz1 hz2 hz3 hz4 hz5 hz6 hz7 hz8 hz9 bz0 bz1 bz2 bz3 bz4 bz5 bz7 bz8 bz9
  go_enter Tryz.func39, Tryz.ntmps39
  go_wp2_with (first
    | (refine step_box rfl 1 rfl 44 (.tmp 0) rfl (ncs v) rfl ?_; intro g2 w2 hr2 hg2 hb2 hs2
       have R2 := Lib.hid hr2
       have HB2 := Lib.hid hb2
       clear hr2 hb2 hg2 hs2)
    | (refine step_load rfl 5 rfl 44 (.tmp 1) rfl g2 rfl (ncs v) _ R2.out.all Tryz.underlying44 rfl (i1.out _) ?_)
    | (go_at_call 73; refine (HM.out _).mono ?_; rintro e w3 ⟨rfl, hb3⟩
       have P0 := Lib.hid (p := PK w w3 g2 v none 0 0 0) ⟨R2.out.kept hb3, World.ownsRow_nil _ _ _ _, below_nxt hb3 HB2.out⟩
       have c0 : w3.cell? ⟨g2, 0, none⟩ = some (.int .i64 z0) := by rw [P0.out.row.cell, ← HZ0.out]; rfl
       clear hb3 R2 HB2 HM))
  refine (num_pk (n := 0) 1 1 z0 HZ0.out rfl rfl rfl (.inl rfl) (HF.out 0 (by omega)) (by omega) P0.out).mono ?_
  rintro e u0 ⟨A1, c1', rfl, P1⟩
  have c1 : u0.cell? ⟨g2, 1, none⟩ = some (.int .i64 z1) := by rw [P1.out.row.cell, ← HZ1.out]; rfl
  clear c0 P0
  go_wp2_with fail
  refine (num_pk (n := 1) 3 2 z1 HZ1.out rfl rfl rfl (.inr (.inl rfl)) (HF.out 1 (by omega)) (by omega) P1.out).mono ?_
  rintro e u1 ⟨A2, c2', rfl, P2⟩
  have c2 : u1.cell? ⟨g2, 2, none⟩ = some (.int .u32 z2) := by rw [P2.out.row.cell, ← HZ2.out]; rfl
  clear c1 P1
  go_wp2_with fail
  refine (num_pk (n := 3) 7 4 z2 HZ2.out rfl rfl rfl (.inr (.inr (.inl rfl))) (HF.out 2 (by omega)) (by omega) P2.out).mono ?_
  rintro e u2 ⟨A3, c3', rfl, P3⟩
  have c3 : u2.cell? ⟨g2, 3, none⟩ = some (.int .u32 z3) := by rw [P3.out.row.cell, ← HZ3.out]; rfl
  clear c2 P2
  go_wp2_with fail
  refine (num_pk (n := 7) 11 4 z3 HZ3.out rfl rfl rfl (.inr (.inr (.inl rfl))) (HF.out 3 (by omega)) (by omega) P3.out).mono ?_
  rintro e u3 ⟨A4, c4', rfl, P4⟩
  have c4 : u3.cell? ⟨g2, 4, none⟩ = some (.int .i64 z4) := by rw [P4.out.row.cell, ← HZ4.out]; rfl
  clear c3 P3
  go_wp2_with fail
  refine (num_pk (n := 11) 13 2 z4 HZ4.out rfl rfl rfl (.inr (.inl rfl)) (HF.out 4 (by omega)) (by omega) P4.out).mono ?_
  rintro e u4 ⟨A5, c5', rfl, P5⟩
  have c5 : u4.cell? ⟨g2, 5, none⟩ = some (.int .i64 z5) := by rw [P5.out.row.cell, ← HZ5.out]; rfl
  clear c4 P4
  go_wp2_with fail
  refine (num_pk (n := 13) 17 4 z5 HZ5.out rfl rfl rfl (.inr (.inr (.inl rfl))) (HF.out 5 (by omega)) (by omega) P5.out).mono ?_
  rintro e u5 ⟨A6, c6', rfl, P6⟩
  have c6 : u5.cell? ⟨g2, 6, none⟩ = some (.int .u64 z6) := by rw [P6.out.row.cell, ← HZ6.out]; rfl
  clear c5 P5
  go_wp2_with fail
  refine (num_pk (n := 17) 25 8 z6 HZ6.out rfl rfl rfl (.inr (.inr (.inr rfl))) (HF.out 6 (by omega)) (by omega) P6.out).mono ?_
  rintro e u6 ⟨A7, c7', rfl, P7⟩
  have c7 : u6.cell? ⟨g2, 7, none⟩ = some (.int .u32 z7) := by rw [P7.out.row.cell, ← HZ7.out]; rfl
  clear c6 P6
  go_wp2_with fail
  refine (num_pk (n := 25) 29 4 z7 HZ7.out rfl rfl rfl (.inr (.inr (.inl rfl))) (HF.out 7 (by omega)) (by omega) P7.out).mono ?_
  rintro e u7 ⟨A8, c8', rfl, P8⟩
  have c8 : u7.cell? ⟨g2, 8, none⟩ = some (.int .i64 z8) := by rw [P8.out.row.cell, ← HZ8.out]; rfl
  clear c7 P7
  go_wp2_with fail
  refine (num_pk (n := 29) 31 2 z8 HZ8.out rfl rfl rfl (.inr (.inl rfl)) (HF.out 8 (by omega)) (by omega) P8.out).mono ?_
  rintro e u8 ⟨A9, c9', rfl, P9⟩
  have c9 : u8.cell? ⟨g2, 9, none⟩ = some (.int .u32 z9) := by rw [P9.out.row.cell, ← HZ9.out]; rfl
  clear c8 P8
  go_wp2_with fail
  refine (num_pk (n := 31) 35 4 z9 HZ9.out rfl rfl rfl (.inr (.inr (.inl rfl))) (HF.out 9 (by omega)) (by omega) P9.out).mono ?_
  rintro e u9 ⟨A10, c10', rfl, P10⟩
  clear c9 P9
  go_wp2_with fail
  refine (putslots_any w.heap.size A10 35 c10' (nb sz v 10) (some ⟨g2, 10, none⟩) 16 16 (fun j => v (10 + j)) 67 rfl (by rw [nb_len]; rfl) (by omega) (fun j hj => HMY.out.2.2.2.2.2.2.1 j hj) u9 P10.out.b.size P10.out.own (hol_ino P10.out.row)).mono ?_
  rintro e u10 ⟨A11, c11', rfl, ho11, hb11⟩
  have P11 := Lib.hid (p := PK w u10 g2 v A11 c11' 67 26) ⟨P10.out.row.kept hb11.out, by have h1 := ho11.out; rw [show nb sz v 10 ++ nb s2 (fun j => v (10 + j)) 16 = nb sz v 26 from nb_slots v 0 16] at h1; exact h1, below_nxt hb11.out P10.out.b⟩
  have c26 : u10.cell? ⟨g2, 26, none⟩ = some (.int .i64 (v 26)) := by rw [P11.out.row.cell]; rfl
  clear ho11 hb11 P10
  go_wp2_with fail
  have P12 := Lib.hid (p := PK w (u10.alloc (.cells #[.int .i64 (v 26)] 3)) g2 v A11 c11' 67 26) ⟨P11.out.row.alloc _, P11.out.own.alloc _, P11.out.b.alloc P11.out.b.size _⟩
  have hh := hol_single (w := u10.alloc (.cells #[.int .i64 (v 26)] 3)) (g := u10.heap.size) (z := v 26) (by simp)
  have hy : 0 ≤ v 26 ∧ v 26 ≤ 255 := HMY.out.2.2.2.2.2.2.2
  refine (putslots_any w.heap.size A11 67 c11' (nb sz v 26) (some ⟨u10.heap.size, 0, none⟩) 1 1 (fun _ => v 26) 69 rfl (by rw [nb_len]; rfl) (by omega) (fun j hj => hy) _ P12.out.b.size P12.out.own hh).mono ?_
  rintro e u11 ⟨A12, c12', rfl, ho12, hb12⟩
  have hb13 := Lib.hid (below_nxt hb12.out P12.out.b)
  have ho13 := Lib.hid (p := u11.ownsRow w.heap.size 5 1 (.slice A12 69 c12') 69 (bc (nb sz v 27))) ho12.out
  clear ho12 hb12 hh c26 P11 P12
  go_wp2_with fail
  refine (whole_any w.heap.size A12 69 c12' (nb sz v 27) (by omega) (by omega) u11 hb13.out.size ho13.out).mono ?_
  rintro e u12 ⟨A14, c14', rfl, ho14, hb14⟩
  go_wp2
  go_ret2
  exact ⟨A14, c14', rfl, ho14, Lib.hid (hb13.out.trans hb14.out)⟩
end Go.Proofs.YtfbfeplegdpemaaGreat
/- Package inode: a list's block; slots that a cursor tells. Conditions: those named. -/
set_option linter.unusedVariables false
set_option maxRecDepth 20000
namespace Go.Proofs.YtfbfeplegdpemaaGreat
open Go.RowKit

theorem packlist_not (f : Nat → Int) (h : slotB f 112 = false) (w : World) : Calls Tryz.prog 85 #[.agg (inl 112 f).toArray] w fun e w' => e = .returned (.tuple #[.slice none 0 0, .int .i64 201]) ∧ Below w.heap.size w w' := by
  have HA := Lib.hid (fun (w : World) (g : Nat) (hr : Row w g 134 (inl 112 f)) => areslots_any _ 112 112 f (by omega) w (hol_112 hr))
  rw [h] at HA
  clear h
  go_enter Tryz.func85, Tryz.ntmps85
  go_wp2_with (first
    | (refine step_box rfl 1 rfl 134 (.tmp 0) rfl (inl 112 f) rfl ?_; intro g2 w2 hr2 hg2 hb2 hs2
       have R2 := Lib.hid hr2
       have HB2 := Lib.hid hb2
       clear hr2 hb2 hg2 hs2)
    | (go_at_call 103; refine (HA.out _ _ R2.out).mono ?_; rintro e w3 ⟨rfl, rfl⟩))
  go_ret2
  exact ⟨rfl, HB2.out⟩
theorem packlist_ok (f : Nat → Int) (h : slotB f 112 = true) (w : World) : Calls Tryz.prog 85 #[.agg (inl 112 f).toArray] w fun e w' => ∃ A c, e = .returned (.tuple #[.slice A 256 c, .int .i64 0]) ∧ Hid (w'.ownsRow w.heap.size 5 1 (.slice A 256 c) 256 (bc (blk s2 f 112))) ∧ Hid (Below w.heap.size w w') := by
  have HA := Lib.hid (fun (w : World) (g : Nat) (hr : Row w g 134 (inl 112 f)) => areslots_any _ 112 112 f (by omega) w (hol_112 hr))
  have HF := Lib.hid ((slotB_iff f 112).1 h)
  rw [h] at HA
  clear h
  go_enter Tryz.func85, Tryz.ntmps85
  go_wp2_with (first
    | (refine step_box rfl 1 rfl 134 (.tmp 0) rfl (inl 112 f) rfl ?_; intro g2 w2 hr2 hg2 hb2 hs2
       have R2 := Lib.hid hr2
       have HB2 := Lib.hid hb2
       clear hr2 hb2 hg2 hs2)
    | (go_at_call 103; refine (HA.out _ _ R2.out).mono ?_; rintro e w3 ⟨rfl, rfl⟩)
    | (go_at_call 75
       refine (putslots_any w.heap.size none 0 0 [] (some ⟨g2, 0, none⟩) 112 112 f 224 rfl rfl (by omega) HF.out _ HB2.out.size (World.ownsRow_nil _ _ _ _) (hol_112 R2.out)).mono ?_
       rintro e w4 ⟨A4, c4, rfl, ho4, hb4⟩
       have HO4 := Lib.hid (p := w4.ownsRow w.heap.size 5 1 (.slice A4 224 c4) 224 (bc (nb s2 f 112))) (by have := ho4.out; rwa [List.nil_append] at this)
       have HB4 := Lib.hid (below_nxt hb4.out HB2.out)
       clear ho4 hb4)
    | (go_at_call 76
       refine (whole_any w.heap.size A4 224 c4 (nb s2 f 112) (by omega) (by omega) _ HB4.out.size HO4.out).mono ?_
       rintro e w5 ⟨A5, c5, rfl, HO5, hb5⟩
       have HB5 := Lib.hid (HB4.out.trans hb5.out)
       clear hb5))
  go_ret2
  exact ⟨A5, c5, rfl, HO5, HB5⟩
/-! What a cursor tells. -/
/-- Only two blocks have changed. -/
structure Two (a b : Nat) (w w' : World) : Prop where
  os : w'.os = w.os
  tape : w'.tape = w.tape
  output : w'.output = w.output
  size : w.heap.size ≤ w'.heap.size
  block : ∀ k, k < w.heap.size → k ≠ a → k ≠ b → w'.heap[k]? = w.heap[k]?
theorem Two.refl (a b : Nat) (w : World) : Two a b w w := ⟨rfl, rfl, rfl, Nat.le_refl _, fun _ _ _ _ => rfl⟩
theorem Two.one {a b : Nat} {w u v : World} (h : Two a b w u) {r : Option Nat} (hg : u.grownBy v r) (hr : r = some a ∨ r = some b ∨ r = none) : Two a b w v := by
  refine ⟨hg.os.trans h.os, hg.tape.trans h.tape, hg.output.trans h.output, Nat.le_trans h.size hg.size, fun k hk ha hb => (hg.block k (Nat.lt_of_lt_of_le hk h.size) ?_).trans (h.block k hk ha hb)⟩
  rcases hr with rfl | rfl | rfl
  · intro e; injection e with e; exact ha e
  · intro e; injection e with e; exact hb e
  · simp
theorem Two.row {a b g : Nat} {w w' : World} {t : TypeId} {cs : List Value} (h : Two a b w w') (hr : Row w g t cs) (ha : g ≠ a) (hb : g ≠ b) : Row w' g t cs := (h.block g hr.lt ha hb).trans hr
theorem Two.below {n a b : Nat} {W w w' : World} (h : Two a b w w') (hb : Below n W w) (hn : n ≤ w.heap.size) (h1 : n ≤ a) (h2 : n ≤ b) : Below n W w' :=
  ⟨h.os.trans hb.os, h.tape.trans hb.tape, h.output.trans hb.output, Nat.le_trans hb.size h.size, fun k hk => (h.block k (Nat.lt_of_lt_of_le hk hn) (by omega) (by omega)).trans (hb.block k hk)⟩
set_option maxHeartbeats 1000000 in
theorem readslots_any (gc g : Nat) (hgc : gc ≠ g) (l : List UInt8) (o m d : Nat) (t : TypeId) (ht : t ≠ 5) (C : Nat → List Value) (hC : ∀ k, k < m → (C k).set (o + k) (.int .i64 ((num ((l.drop (2 * k)).take 2) : Nat) : Int)) = C (k + 1)) (hz : ∀ k, k < m → ∃ z, (C k)[o + k]? = some (.int .i64 z))
    (hm : m ≤ 112) (h2m : 2 * m ≤ l.length) (hl : l.length ≤ 256) (w : World) (hc : Cur w gc l false) (hr : Row w g t (C 0)) :
    Calls Tryz.prog 105 #[.func (.func 79) #[.pointer (some ⟨gc, 0, none⟩)] #[], .slice (some ⟨g, o, none⟩) m d] w fun e w' => e = .returned (.tuple #[]) ∧ Hid (Cur w' gc (l.drop (2 * m)) false) ∧ Hid (Row w' g t (C m)) ∧ Hid (Two gc g w w') := by
  have HC := Lib.hid (p := Cur w gc (l.drop (2 * 0)) false) (by rw [Nat.mul_zero, List.drop_zero]; exact hc)
  have HR := Lib.hid hr
  have HS := Lib.hid hC
  have HZ := Lib.hid hz
  have HM := Lib.hid hm
  have HL := Lib.hid (p := 2 * m ≤ l.length ∧ l.length ≤ 256) ⟨h2m, hl⟩
  have HG := Lib.hid hgc
  have HT := Lib.hid ht
  clear hc hr hC hz hm h2m hl hgc ht
  go_enter Tryz.func105, Tryz.ntmps105
  go_wp2
  go_loopw [7] (fun y wr => ∃ k : Nat, Hid (k ≤ m) ∧ y = .int .i64 (k : Int) ∧ Hid (Cur wr gc (l.drop (2 * k)) false) ∧ Hid (Row wr g t (C k)) ∧ Hid (Two gc g w wr)) (fun y _ => 112 - (intOf y).toNat)
  case atStart => exact ⟨0, Lib.hid (by omega), rfl, HC, HR, Lib.hid (Two.refl _ _ _)⟩
  case round =>
    clear HC HR
    obtain ⟨k, HK, rfl, HC, HR, HW⟩ := hrel
    have hkw : IntKind.i64.wrap ((k : Int) + 1) = (k : Int) + 1 := by rw [IntKind.wrap_i64]; have := HK.out; have := HM.out; omega
    by_cases hkm : k < m
    · have hki : (k : Int) < (m : Int) := by omega
      have hk0 : (0 : Int) ≤ (k : Int) := by omega
      have HKM := Lib.hid hkm
      have HNM := Lib.hid (cnum_at gc (l.drop (2 * k)) 2 (by omega) wr HC.out (by rw [List.length_drop]; have := HL.out; omega) (by rw [List.length_drop]; have := HL.out; omega))
      obtain ⟨x, hx⟩ : ∃ x, num ((l.drop (2 * k)).take 2) = x := ⟨_, rfl⟩
      have hx2 : x < 65536 := by rw [← hx]; exact num_take_lt _ 2
      have hxw : IntKind.i64.wrap (x : Int) = (x : Int) := by rw [IntKind.wrap_i64]; omega
      have HX := Lib.hid hx
      rw [hx] at HNM
      clear hkm hx hx2
      go_wp2_with (go_at_call 79; refine HNM.out.mono ?_; rintro e w2 ⟨rfl, hc2, hg2⟩
                   obtain ⟨z, hz⟩ := HZ.out k HKM.out
                   have HR2 := Lib.hid (HR.out.grown hg2.out (fun e => by injection e with e; have := HG.out; omega))
                   have c2 : w2.cell? ⟨g, o + k, none⟩ = some (.int .i64 z) := by rw [HR2.out.cell, hz]
                   have f2 := HR2.out.free (o + k)
                   have HC2 := Lib.hid (p := Cur w2 gc (l.drop (2 * (k + 1))) false) (by have h9 := hc2.out; rw [List.drop_drop] at h9; exact h9)
                   have HW2 := Lib.hid (HW.out.one hg2.out (.inl rfl))
                   clear hc2 hg2 hz)
      have HR3 := Lib.hid (p := Row (w2.setCell ⟨g, o + k, none⟩ (.int .i64 (x : Int))) g t (C (k + 1))) (by rw [← HS.out k HKM.out, HX.out]; exact HR2.out.put _ _)
      have HC3 := Lib.hid (p := Cur (w2.setCell ⟨g, o + k, none⟩ (.int .i64 (x : Int))) gc (l.drop (2 * (k + 1))) false) (HC2.out.grown (grown_set w2 ⟨g, o + k, none⟩ _) (fun e => by injection e with e; replace e : gc = g := e; have := HG.out; omega) (fun q hq => HR2.out.no8 HT.out q hq))
      have HW3 := Lib.hid (p := Two gc g w (w2.setCell ⟨g, o + k, none⟩ (.int .i64 (x : Int)))) (HW2.out.one (grown_set w2 ⟨g, o + k, none⟩ _) (.inr (.inl rfl)))
      go_roundw
      case rel => exact ⟨k + 1, Lib.hid HKM.out, by go_num, HC3, HR3, HW3⟩
      case measure => have := HKM.out; have := HM.out; simp [intOf]; omega
    · obtain rfl : k = m := by have := HK.out; omega
      have hki : ¬ (k : Int) < (k : Int) := by omega
      clear hkm
      go_wp2
      go_end0
      exact ⟨rfl, HC, HR, HW⟩
end Go.Proofs.YtfbfeplegdpemaaGreat
/- Package inode: the inode that a cursor tells. Conditions: those named. -/
set_option linter.unusedVariables false
set_option maxRecDepth 20000
namespace Go.Proofs.YtfbfeplegdpemaaGreat
open Go.RowKit

/-- The first fields read. -/
def up (L : List UInt8) (k j : Nat) : Int := if j < k then rd sz L j else 0
theorem up_zero (L : List UInt8) : ncs (up L 0) = ncs ino0 := ncs_congr fun j _ => by unfold up; rw [if_neg (by omega)]; rfl
theorem up_all (L : List UInt8) : ncs (up L 27) = ncs (rd sz L) := ncs_congr fun j hj => by unfold up; rw [if_pos hj]
theorem up_step (L : List UInt8) (k : Nat) (hk : k < 27) : (ncs (up L k)).set k (.int (kd k) (rd sz L k)) = ncs (up L (k + 1)) := by
  rw [ncs_set _ hk]
  refine ncs_congr fun j _ => ?_
  unfold at1 up
  by_cases h : j = k
  · subst h
    rw [if_pos rfl, if_pos (by omega)]
  · rw [if_neg h]
    by_cases h2 : j < k
    · rw [if_pos h2, if_pos (by omega)]
    · rw [if_neg h2, if_neg (by omega)]
/-- An inode half read. -/
structure RS (w0 w : World) (gc g2 g3 : Nat) (L : List UInt8) (kc kr : Nat) : Prop where
  cur : Cur w gc (L.drop (off sz kc)) false
  r2 : Row w g2 44 (ncs ino0)
  r3 : Row w g3 44 (ncs (up L kr))
  n : gc < g2 ∧ g2 < g3
  q : w0.heap.size ≤ g2
  b : w0.grownBy w (some gc)
theorem ino_u8 : 44 ≠ 5 := by decide
theorem RS.turn {w0 w w' : World} {gc g2 g3 : Nat} {L : List UInt8} {kc kr kc' : Nat} (h : RS w0 w gc g2 g3 L kc kr) (hc : Cur w' gc (L.drop (off sz kc')) false) (hg : w.grownBy w' (some gc)) : RS w0 w' gc g2 g3 L kc' kr :=
  ⟨hc, h.r2.grown hg (fun e => by injection e with e; have := h.n; omega), h.r3.grown hg (fun e => by injection e with e; have := h.n; omega), h.n, h.q, grown_trans h.b hg⟩
theorem RS.put {w0 w : World} {gc g2 g3 : Nat} {L : List UInt8} {kc k : Nat} (h : RS w0 w gc g2 g3 L kc k) (hk : k < 27) {u : Value} (hu : u = .int (kd k) (rd sz L k)) : RS w0 (w.setCell ⟨g3, k, none⟩ u) gc g2 g3 L kc (k + 1) := by
  subst hu
  have hg := grown_set w ⟨g3, k, none⟩ (.int (kd k) (rd sz L k))
  refine ⟨h.cur.grown hg (fun e => by injection e with e; replace e : gc = g3 := e; have := h.n; omega) (fun q hq => h.r3.no8 ino_u8 q hq), h.r2.grown hg (fun e => by injection e with e; replace e : g2 = g3 := e; have := h.n; omega), ?_, h.n, h.q, ?_⟩
  · rw [← up_step L k hk]
    exact h.r3.put k _
  · exact ⟨hg.os.trans h.b.os, hg.tape.trans h.b.tape, hg.output.trans h.b.output, Nat.le_trans h.b.size hg.size, fun j hj hne => (hg.block j (Nat.lt_of_lt_of_le hj h.b.size) (fun e => by injection e with e; replace e : j = g3 := e; have := h.q; have := h.n; omega)).trans (h.b.block j hj hne)⟩
theorem RS.num {w0 w : World} {gc g2 g3 : Nat} {L : List UInt8} {k kr : Nat} (h : RS w0 w gc g2 g3 L k kr) (s x : Nat) (hs : sz k = s) (hx : rdn sz L k = x) (hk : s = 1 ∨ s = 2 ∨ s = 4 ∨ s = 8) (hl : off sz k + s ≤ L.length) (hl2 : L.length ≤ 256) :
    Calls Tryz.prog 79 #[.pointer (some ⟨gc, 0, none⟩), .int .i64 (s : Int)] w fun e w' => e = .returned (.int .u64 (x : Int)) ∧ Hid (RS w0 w' gc g2 g3 L (k + 1) kr) := by
  subst hs
  refine (cnum_at gc (L.drop (off sz k)) (sz k) hk w h.cur (by rw [List.length_drop]; omega) (by rw [List.length_drop]; omega)).mono ?_
  rintro e w' ⟨rfl, hc, hg⟩
  refine ⟨by rw [← hx]; rfl, Lib.hid (h.turn ?_ hg.out)⟩
  have := hc.out
  rw [List.drop_drop] at this
  exact this
set_option maxHeartbeats 2000000 in
theorem read_any (gc : Nat) (L : List UInt8) (w : World) (hc : Cur w gc L false) (hl : L.length = 256) :
    Calls Tryz.prog 77 #[.func (.func 79) #[.pointer (some ⟨gc, 0, none⟩)] #[]] w fun e w' => e = .returned (.agg (ncs (rd sz L)).toArray) ∧ Hid (w.grownBy w' (some gc)) := by
  have i1 := Lib.hid (fun v => info_ncs v)
  have hz := Lib.hid zero_ino
  have HC := Lib.hid hc
  have HL := Lib.hid hl
  clear hc hl
  obtain ⟨x0, hx0⟩ : ∃ x, rdn sz L 0 = x := ⟨_, rfl⟩
  have bx0 : x0 < 256 := by rw [← hx0]; exact rdn_lt sz L 0
  have wx0 : IntKind.i64.wrap (x0 : Int) = (x0 : Int) := by rw [IntKind.wrap_i64]; omega
  have HX0 := Lib.hid hx0
  obtain ⟨x1, hx1⟩ : ∃ x, rdn sz L 1 = x := ⟨_, rfl⟩
  have bx1 : x1 < 65536 := by rw [← hx1]; exact rdn_lt sz L 1
  have wx1 : IntKind.i64.wrap (x1 : Int) = (x1 : Int) := by rw [IntKind.wrap_i64]; omega
  have HX1 := Lib.hid hx1
  obtain ⟨x2, hx2⟩ : ∃ x, rdn sz L 2 = x := ⟨_, rfl⟩
  have bx2 : x2 < 4294967296 := by rw [← hx2]; exact rdn_lt sz L 2
  have wx2 : IntKind.u32.wrap (x2 : Int) = (x2 : Int) := by rw [wrap_32]; omega
  have mx2 : (x2 : Int) % 4294967296 = (x2 : Int) := by omega
  have HX2 := Lib.hid hx2
  obtain ⟨x3, hx3⟩ : ∃ x, rdn sz L 3 = x := ⟨_, rfl⟩
  have bx3 : x3 < 4294967296 := by rw [← hx3]; exact rdn_lt sz L 3
  have wx3 : IntKind.u32.wrap (x3 : Int) = (x3 : Int) := by rw [wrap_32]; omega
  have mx3 : (x3 : Int) % 4294967296 = (x3 : Int) := by omega
  have HX3 := Lib.hid hx3
  obtain ⟨x4, hx4⟩ : ∃ x, rdn sz L 4 = x := ⟨_, rfl⟩
  have bx4 : x4 < 65536 := by rw [← hx4]; exact rdn_lt sz L 4
  have wx4 : IntKind.i64.wrap (x4 : Int) = (x4 : Int) := by rw [IntKind.wrap_i64]; omega
  have HX4 := Lib.hid hx4
  obtain ⟨x5, hx5⟩ : ∃ x, rdn sz L 5 = x := ⟨_, rfl⟩
  have bx5 : x5 < 4294967296 := by rw [← hx5]; exact rdn_lt sz L 5
  have wx5 : IntKind.i64.wrap (x5 : Int) = (x5 : Int) := by rw [IntKind.wrap_i64]; omega
  have HX5 := Lib.hid hx5
  obtain ⟨x6, hx6⟩ : ∃ x, rdn sz L 6 = x := ⟨_, rfl⟩
  have HX6 := Lib.hid hx6
  obtain ⟨x7, hx7⟩ : ∃ x, rdn sz L 7 = x := ⟨_, rfl⟩
  have bx7 : x7 < 4294967296 := by rw [← hx7]; exact rdn_lt sz L 7
  have wx7 : IntKind.u32.wrap (x7 : Int) = (x7 : Int) := by rw [wrap_32]; omega
  have mx7 : (x7 : Int) % 4294967296 = (x7 : Int) := by omega
  have HX7 := Lib.hid hx7
  obtain ⟨x8, hx8⟩ : ∃ x, rdn sz L 8 = x := ⟨_, rfl⟩
  have bx8 : x8 < 65536 := by rw [← hx8]; exact rdn_lt sz L 8
  have wx8 : IntKind.i64.wrap (x8 : Int) = (x8 : Int) := by rw [IntKind.wrap_i64]; omega
  have HX8 := Lib.hid hx8
  obtain ⟨x9, hx9⟩ : ∃ x, rdn sz L 9 = x := ⟨_, rfl⟩
  have bx9 : x9 < 4294967296 := by rw [← hx9]; exact rdn_lt sz L 9
  have wx9 : IntKind.u32.wrap (x9 : Int) = (x9 : Int) := by rw [wrap_32]; omega
  have mx9 : (x9 : Int) % 4294967296 = (x9 : Int) := by omega
  have HX9 := Lib.hid hx9
  obtain ⟨x26, hx26⟩ : ∃ x, rdn sz L 26 = x := ⟨_, rfl⟩
  have bx26 : x26 < 65536 := by rw [← hx26]; exact rdn_lt sz L 26
  have wx26 : IntKind.i64.wrap (x26 : Int) = (x26 : Int) := by rw [IntKind.wrap_i64]; omega
  have HX26 := Lib.hid hx26
  clear hx0 hx1 hx2 hx3 hx4 hx5 hx6 hx7 hx8 hx9 hx26 bx0 bx1 bx2 bx3 bx4 bx5 bx7 bx8 bx9 bx26
  go_enter Tryz.func77, Tryz.ntmps77
  go_wp2_with (first
    | (refine step_alloc rfl 2 rfl 44 rfl _ hz.out ?_; intro g2 w1 hr1 hg1 hb1 hs1
       have R1 := Lib.hid hr1
       have HB1 := Lib.hid hb1
       have HG1 := Lib.hid (p := g2 = w.heap.size) hg1.out
       clear hr1 hb1 hg1 hs1)
    | (refine step_alloc rfl 3 rfl 44 rfl _ hz.out ?_; intro g3 w2 hr2 hg2 hb2 hs2
       have N0 := Lib.hid (p := RS w w2 gc g2 g3 L 0 0) ⟨by rw [off, List.drop_zero]; exact HC.out.below (HB1.out.trans (hb2.mono HB1.out.size)), R1.out.kept hb2, by rw [up_zero]; exact hr2, ⟨by have h1 := HC.out.lt; have h2 := HG1.out; omega, by have h1 := R1.out.lt; have h2 := hg2.out; omega⟩, by rw [HG1.out]; exact Nat.le_refl _, grown_of_below (HB1.out.trans (hb2.mono HB1.out.size))⟩
       clear hr2 hb2 hg2 hs2 R1 HB1 HC))
  refine (N0.out.num 1 x0 rfl HX0.out (.inl rfl) (by rw [HL.out]; decide) (by rw [HL.out]; decide)).mono ?_
  rintro e w10 ⟨rfl, M0⟩
  have c0 : w10.cell? ⟨g3, 0, none⟩ = some (.int .i64 0) := by rw [M0.out.r3.cell]; rfl
  have f0 := M0.out.r3.free 0
  have N1 := Lib.hid (M0.out.put (by omega) (u := .int .i64 (x0 : Int)) (by rw [← HX0.out]; rfl))
  clear N0 M0
  go_wp2_with fail
  refine (N1.out.num 2 x1 rfl HX1.out (.inr (.inl rfl)) (by rw [HL.out]; decide) (by rw [HL.out]; decide)).mono ?_
  rintro e w11 ⟨rfl, M1⟩
  have c1 : w11.cell? ⟨g3, 1, none⟩ = some (.int .i64 0) := by rw [M1.out.r3.cell]; rfl
  have f1 := M1.out.r3.free 1
  have N2 := Lib.hid (M1.out.put (by omega) (u := .int .i64 (x1 : Int)) (by rw [← HX1.out]; rfl))
  clear N1 M1 c0 f0
  go_wp2_with fail
  refine (N2.out.num 4 x2 rfl HX2.out (.inr (.inr (.inl rfl))) (by rw [HL.out]; decide) (by rw [HL.out]; decide)).mono ?_
  rintro e w12 ⟨rfl, M2⟩
  have c2 : w12.cell? ⟨g3, 2, none⟩ = some (.int .u32 0) := by rw [M2.out.r3.cell]; rfl
  have f2 := M2.out.r3.free 2
  have N3 := Lib.hid (M2.out.put (by omega) (u := .int .u32 (x2 : Int)) (by rw [← HX2.out]; rfl))
  clear N2 M2 c1 f1
  go_wp2_with fail
  refine (N3.out.num 4 x3 rfl HX3.out (.inr (.inr (.inl rfl))) (by rw [HL.out]; decide) (by rw [HL.out]; decide)).mono ?_
  rintro e w13 ⟨rfl, M3⟩
  have c3 : w13.cell? ⟨g3, 3, none⟩ = some (.int .u32 0) := by rw [M3.out.r3.cell]; rfl
  have f3 := M3.out.r3.free 3
  have N4 := Lib.hid (M3.out.put (by omega) (u := .int .u32 (x3 : Int)) (by rw [← HX3.out]; rfl))
  clear N3 M3 c2 f2
  go_wp2_with fail
  refine (N4.out.num 2 x4 rfl HX4.out (.inr (.inl rfl)) (by rw [HL.out]; decide) (by rw [HL.out]; decide)).mono ?_
  rintro e w14 ⟨rfl, M4⟩
  have c4 : w14.cell? ⟨g3, 4, none⟩ = some (.int .i64 0) := by rw [M4.out.r3.cell]; rfl
  have f4 := M4.out.r3.free 4
  have N5 := Lib.hid (M4.out.put (by omega) (u := .int .i64 (x4 : Int)) (by rw [← HX4.out]; rfl))
  clear N4 M4 c3 f3
  go_wp2_with fail
  refine (N5.out.num 4 x5 rfl HX5.out (.inr (.inr (.inl rfl))) (by rw [HL.out]; decide) (by rw [HL.out]; decide)).mono ?_
  rintro e w15 ⟨rfl, M5⟩
  have c5 : w15.cell? ⟨g3, 5, none⟩ = some (.int .i64 0) := by rw [M5.out.r3.cell]; rfl
  have f5 := M5.out.r3.free 5
  have N6 := Lib.hid (M5.out.put (by omega) (u := .int .i64 (x5 : Int)) (by rw [← HX5.out]; rfl))
  clear N5 M5 c4 f4
  go_wp2_with fail
  refine (N6.out.num 8 x6 rfl HX6.out (.inr (.inr (.inr rfl))) (by rw [HL.out]; decide) (by rw [HL.out]; decide)).mono ?_
  rintro e w16 ⟨rfl, M6⟩
  have c6 : w16.cell? ⟨g3, 6, none⟩ = some (.int .u64 0) := by rw [M6.out.r3.cell]; rfl
  have f6 := M6.out.r3.free 6
  have N7 := Lib.hid (M6.out.put (by omega) (u := .int .u64 (x6 : Int)) (by rw [← HX6.out]; rfl))
  clear N6 M6 c5 f5
  go_wp2_with fail
  refine (N7.out.num 4 x7 rfl HX7.out (.inr (.inr (.inl rfl))) (by rw [HL.out]; decide) (by rw [HL.out]; decide)).mono ?_
  rintro e w17 ⟨rfl, M7⟩
  have c7 : w17.cell? ⟨g3, 7, none⟩ = some (.int .u32 0) := by rw [M7.out.r3.cell]; rfl
  have f7 := M7.out.r3.free 7
  have N8 := Lib.hid (M7.out.put (by omega) (u := .int .u32 (x7 : Int)) (by rw [← HX7.out]; rfl))
  clear N7 M7 c6 f6
  go_wp2_with fail
  refine (N8.out.num 2 x8 rfl HX8.out (.inr (.inl rfl)) (by rw [HL.out]; decide) (by rw [HL.out]; decide)).mono ?_
  rintro e w18 ⟨rfl, M8⟩
  have c8 : w18.cell? ⟨g3, 8, none⟩ = some (.int .i64 0) := by rw [M8.out.r3.cell]; rfl
  have f8 := M8.out.r3.free 8
  have N9 := Lib.hid (M8.out.put (by omega) (u := .int .i64 (x8 : Int)) (by rw [← HX8.out]; rfl))
  clear N8 M8 c7 f7
  go_wp2_with fail
  refine (N9.out.num 4 x9 rfl HX9.out (.inr (.inr (.inl rfl))) (by rw [HL.out]; decide) (by rw [HL.out]; decide)).mono ?_
  rintro e w19 ⟨rfl, M9⟩
  have c9 : w19.cell? ⟨g3, 9, none⟩ = some (.int .u32 0) := by rw [M9.out.r3.cell]; rfl
  have f9 := M9.out.r3.free 9
  have N10 := Lib.hid (M9.out.put (by omega) (u := .int .u32 (x9 : Int)) (by rw [← HX9.out]; rfl))
  clear N9 M9 c8 f8
  go_wp2_with fail
  refine (readslots_any gc g3 (by have := N10.out.n; omega) (L.drop 35) 10 16 16 44 ino_u8 (fun j => ncs (up L (10 + j))) ?hC ?hz (by omega) (by rw [List.length_drop, HL.out]; decide) (by rw [List.length_drop, HL.out]; decide) _ N10.out.cur N10.out.r3).mono ?_
  case hC =>
    intro k hk
    have h1 := up_step L (10 + k) (by omega)
    have h2 : kd (10 + k) = .i64 := by unfold kd; rw [if_neg (by omega), if_neg (by omega)]
    rw [h2] at h1
    refine Eq.trans ?_ h1
    unfold rd rdn
    rw [off_slot, sz_slot, List.drop_drop]
  case hz => exact fun k hk => ⟨_, ncs_slot _ (by omega)⟩
  rintro e w30 ⟨rfl, hc30, hr30, ht30⟩
  have N26 := Lib.hid (p := RS w w30 gc g2 g3 L 26 26) ⟨by have h9 := hc30.out; rw [List.drop_drop] at h9; exact h9, ht30.out.row N10.out.r2 (by have := N10.out.n; omega) (by have := N10.out.n; omega), hr30.out, N10.out.n, N10.out.q, ⟨ht30.out.os.trans N10.out.b.os, ht30.out.tape.trans N10.out.b.tape, ht30.out.output.trans N10.out.b.output, Nat.le_trans N10.out.b.size ht30.out.size, fun j hj hne => (ht30.out.block j (Nat.lt_of_lt_of_le hj N10.out.b.size) (fun e => hne (by rw [e])) (by have := N10.out.q; have := N10.out.n; omega)).trans (N10.out.b.block j hj hne)⟩⟩
  clear hc30 hr30 ht30 N10 c9 f9
  go_wp2_with fail
  refine (N26.out.num 2 x26 rfl HX26.out (.inr (.inl rfl)) (by rw [HL.out]; decide) (by rw [HL.out]; decide)).mono ?_
  rintro e w31 ⟨rfl, M26⟩
  have c26 : w31.cell? ⟨g3, 26, none⟩ = some (.int .i64 0) := by rw [M26.out.r3.cell]; rfl
  have f26 := M26.out.r3.free 26
  have N27 := Lib.hid (M26.out.put (by omega) (u := .int .i64 (x26 : Int)) (by rw [← HX26.out]; rfl))
  clear N26 M26
  go_wp2_with (first
    | (refine step_load rfl 51 rfl 44 (.tmp 3) rfl g3 rfl (ncs (up L 27)) _ N27.out.r3.all Tryz.underlying44 rfl (i1.out _) ?_)
    | (refine step_store rfl 44 (.tmp 2) (.tmp 51) rfl g2 (by rfl) _ (ncs ino0) (ncs (up L 27)) (by rfl) N27.out.r2 rfl (i1.out _) (ncs_one _) ?_; intro w33 hr33 hg33 hs33))
  rw [up_all] at hr33
  refine bodyPost_ret (results_cell_row rfl _ _ g2 _ _ _ _ rfl hr33 Tryz.underlying44 rfl (by simpa using i1.out (rd sz L))) rfl ?_
  have hN := N27.out
  exact ⟨rfl, Lib.hid ⟨hg33.os.trans hN.b.os, hg33.tape.trans hN.b.tape, hg33.output.trans hN.b.output, Nat.le_trans hN.b.size hg33.size, fun k hk hne => (hg33.block k (Nat.lt_of_lt_of_le hk hN.b.size) (fun e => by injection e with e; have := hN.q; omega)).trans (hN.b.block k hk hne)⟩⟩
end Go.Proofs.YtfbfeplegdpemaaGreat
