/- A nil vault; what New refuses. No conditions. -/
import Derived.Test.YtpocccnhibjjcaaGreatDoorVaw
set_option linter.unusedVariables false
set_option maxRecDepth 20000
namespace Go.Proofs.YtpocccnhibjjcaaGreatDoor
open Go.RowKit
theorem nv_ready (w : World) : Calls Tryz.prog 19 #[.pointer none] w fun e w' => e = .returned (.bool false) ∧ Below w.heap.size w w' := by
  go_enter Tryz.func19, Tryz.ntmps19
  go_wp2
  go_ret
  exact ⟨rfl, Below.refl _ _⟩
theorem nv_going (w : World) : Calls Tryz.prog 22 #[.pointer none] w fun e w' => e = .returned (.bool false) ∧ Below w.heap.size w w' := by
  go_enter Tryz.func22, Tryz.ntmps22
  go_wp2
  go_ret
  exact ⟨rfl, Below.refl _ _⟩
theorem nv_changed (w : World) : Calls Tryz.prog 23 #[.pointer none] w fun e w' => e = .returned (.int .i64 0) ∧ Below w.heap.size w w' := by
  go_enter Tryz.func23, Tryz.ntmps23
  go_wp2
  go_ret
  exact ⟨rfl, Below.refl _ _⟩
theorem nv_epoch (w : World) : Calls Tryz.prog 24 #[.pointer none] w fun e w' => e = .returned (.int .u32 0) ∧ Below w.heap.size w w' := by
  go_enter Tryz.func24, Tryz.ntmps24
  go_wp2
  go_ret
  exact ⟨rfl, Below.refl _ _⟩
theorem nv_free (w : World) : Calls Tryz.prog 25 #[.pointer none] w fun e w' => e = .returned (.int .i64 0) ∧ Below w.heap.size w w' := by
  go_enter Tryz.func25, Tryz.ntmps25
  go_wp2
  go_ret
  exact ⟨rfl, Below.refl _ _⟩
theorem nv_uses (w : World) : Calls Tryz.prog 26 #[.pointer none] w fun e w' => e = .returned (.slice none 0 0) ∧ Below w.heap.size w w' := by
  go_enter Tryz.func26, Tryz.ntmps26
  go_wp2
  go_ret
  exact ⟨rfl, Below.refl _ _⟩
theorem nv_may (z : Int) (w : World) : Calls Tryz.prog 44 #[.pointer none, .int .i64 z] w fun e w' => e = .returned (.int .i64 205) ∧ Below w.heap.size w w' := by
  go_enter Tryz.func44, Tryz.ntmps44
  go_wp2_with (first
    | (go_at_call 19; refine (nv_ready _).mono ?_; rintro e0 w0 ⟨rfl, hb0⟩; have HB := Lib.hid (below_nxt hb0 (Below.refl _ _)); clear hb0))
  go_ret
  exact ⟨rfl, HB.out⟩
theorem nv_known (z : Int) (w : World) : Calls Tryz.prog 20 #[.pointer none, .int .i64 z] w fun e w' => e = .returned (.bool false) ∧ Below w.heap.size w w' := by
  go_enter Tryz.func20, Tryz.ntmps20
  go_wp2_with (first
    | (go_at_call 44; refine (nv_may z _).mono ?_; rintro e0 w0 ⟨rfl, hb0⟩; have HB := Lib.hid (below_nxt hb0 (Below.refl _ _)); clear hb0))
  go_ret
  exact ⟨rfl, HB.out⟩
theorem nv_fetch (z : Int) (w : World) : Calls Tryz.prog 17 #[.pointer none, .int .i64 z] w fun e w' => e = .returned (.int .i64 205) ∧ Below w.heap.size w w' := by
  go_enter Tryz.func17, Tryz.ntmps17
  go_wp2_with (first
    | (go_at_call 44; refine (nv_may z _).mono ?_; rintro e0 w0 ⟨rfl, hb0⟩; have HB := Lib.hid (below_nxt hb0 (Below.refl _ _)); clear hb0))
  go_ret
  exact ⟨rfl, HB.out⟩
theorem nv_get (z : Int) (w : World) : Calls Tryz.prog 15 #[.pointer none, .int .i64 z] w fun e w' => e = .returned (.tuple #[.slice none 0 0, .bool false]) ∧ Below w.heap.size w w' := by
  go_enter Tryz.func15, Tryz.ntmps15
  go_wp2_with (first
    | (go_at_call 20; refine (nv_known z _).mono ?_; rintro e0 w0 ⟨rfl, hb0⟩; have HB := Lib.hid (below_nxt hb0 (Below.refl _ _)); clear hb0))
  go_ret2
  exact ⟨rfl, HB.out⟩
theorem nv_peek (z : Int) (w : World) : Calls Tryz.prog 16 #[.pointer none, .int .i64 z] w fun e w' => e = .returned (.tuple #[.slice none 0 0, .int .i64 205]) ∧ Below w.heap.size w w' := by
  go_enter Tryz.func16, Tryz.ntmps16
  go_wp2_with (first
    | (go_at_call 44; refine (nv_may z _).mono ?_; rintro e0 w0 ⟨rfl, hb0⟩; have HB := Lib.hid (below_nxt hb0 (Below.refl _ _)); clear hb0))
  go_ret2
  exact ⟨rfl, HB.out⟩
theorem nv_put (z : Int) (w : World) : Calls Tryz.prog 18 #[.pointer none, .int .i64 z, .slice none 0 0] w fun e w' => e = .returned (.int .i64 205) ∧ Below w.heap.size w w' := by
  go_enter Tryz.func18, Tryz.ntmps18
  go_wp2_with (first
    | (go_at_call 44; refine (nv_may z _).mono ?_; rintro e0 w0 ⟨rfl, hb0⟩; have HB := Lib.hid (below_nxt hb0 (Below.refl _ _)); clear hb0))
  go_ret
  exact ⟨rfl, HB.out⟩
theorem nv_push (w : World) : Calls Tryz.prog 14 #[.pointer none] w fun e w' => e = .returned (.tuple #[.bool false, .int .i64 205]) ∧ Below w.heap.size w w' := by
  go_enter Tryz.func14, Tryz.ntmps14
  go_wp2_with (first
    | (go_at_call 22; refine (nv_going _).mono ?_; rintro e0 w0 ⟨rfl, hb0⟩; have HB := Lib.hid (below_nxt hb0 (Below.refl _ _)); clear hb0))
  go_ret2
  exact ⟨rfl, HB.out⟩
theorem nv_mount (w : World) : Calls Tryz.prog 13 #[.pointer none] w fun e w' => e = .returned (.tuple #[.bool false, .int .i64 5]) ∧ Below w.heap.size w w' := by
  go_enter Tryz.func13, Tryz.ntmps13
  go_wp2
  go_ret2
  exact ⟨rfl, Below.refl _ _⟩
theorem nv_begin (w : World) : Calls Tryz.prog 21 #[.pointer none] w fun e w' => e = .returned (.bool false) ∧ Below w.heap.size w w' := by
  go_enter Tryz.func21, Tryz.ntmps21
  go_wp2_with (first
    | (go_at_call 22; refine (nv_going _).mono ?_; rintro e1 w1 ⟨rfl, hb1⟩; have HB1 := Lib.hid hb1; clear hb1)
    | (go_at_call 23; refine (nv_changed _).mono ?_; rintro e2 w2 ⟨rfl, hb2⟩; have HB := Lib.hid (below_nxt hb2 HB1.out); clear hb2))
  go_ret
  exact ⟨rfl, HB.out⟩
theorem new_nod (A V : Option Addr) (d : Int) (w : World) : Calls Tryz.prog 9 #[.pointer none, .pointer A, .pointer V, .int .i64 d] w fun e w' => e = .returned (.tuple #[.pointer none, .int .i64 201]) ∧ Below w.heap.size w w' := by
  go_enter Tryz.func9, Tryz.ntmps9
  go_wp2
  go_ret2
  exact ⟨rfl, Below.refl _ _⟩
theorem new_noa (ad : Addr) (V : Option Addr) (d : Int) (w : World) : Calls Tryz.prog 9 #[.pointer (some ad), .pointer none, .pointer V, .int .i64 d] w fun e w' => e = .returned (.tuple #[.pointer none, .int .i64 201]) ∧ Below w.heap.size w w' := by
  go_enter Tryz.func9, Tryz.ntmps9
  go_wp2
  go_ret2
  exact ⟨rfl, Below.refl _ _⟩
theorem new_few {b : Nat} {w : World} {gd ga : Nat} {FD : List Nat} {ss : List BV} {rs : List (Nat × BV)} {E : Nat → List BV} {ts : List (Int × Int × BV)} (V : Option Addr) (hd : PD b w gd FD ss rs E ts) (d : Int) (hen : enB d (ss.length : Int) = false) : Calls Tryz.prog 9 #[.pointer (some ⟨gd, 0, none⟩), .pointer (some ⟨ga, 0, none⟩), .pointer V, .int .i64 d] w fun e w' => e = .returned (.tuple #[.pointer none, .int .i64 201]) ∧ Below w.heap.size w w' := by
  have HB := Lib.hid hd.blocks
  have HE := Lib.hid (venough d (ss.length : Int))
  rw [hen] at HE
  clear hd hen
  go_enter Tryz.func9, Tryz.ntmps9
  go_wp2_with (first
    | (go_at_call 35; refine HB.out.mono ?_; rintro e w4 ⟨rfl, rfl⟩)
    | (go_at_call 38; refine (HE.out _).mono ?_; rintro e w4 ⟨rfl, rfl⟩))
  go_ret2
  exact ⟨rfl, Below.refl _ _⟩
theorem blocks_all (d : Int) (w : World) : Calls Tryz.prog 12 #[.int .i64 d] w fun e w' => e = .returned (.int .i64 (2 * ((P7.sl d : Int) + (P7.nd (P7.lv d) : Int)))) ∧ Below w.heap.size w w' := by
  have HS := Lib.hid (fun w => P7.rslots_any d w)
  have HA := Lib.hid (fun w => P7.rall_any d w)
  have h1 := P7.sl_le d
  have h2 := nd_le d
  have hL := P7.al_len (P7.lv d)
  obtain ⟨s, hs⟩ : ∃ s, P7.sl d = s := ⟨_, rfl⟩
  obtain ⟨m, hm⟩ : ∃ m, P7.nd (P7.lv d) = m := ⟨_, rfl⟩
  obtain ⟨l, hl⟩ : ∃ l, P7.al (P7.lv d) = l := ⟨_, rfl⟩
  rw [hs] at HS h1 ⊢
  rw [hl] at HA hL
  rw [hm] at h2 hL ⊢
  subst hL
  have hs64 : (s : Int) ≤ 256 := by omega
  have hl21 : (l.length : Int) ≤ 85 := by omega
  clear hs hl hm h1 h2
  go_enter Tryz.func12, Tryz.ntmps12
  go_wp2_with (first
    | (go_at_call 11; refine (HS.out _).mono ?_; rintro e w4 ⟨rfl, rfl⟩)
    | (go_at_call 34; refine (HA.out _).mono ?_; rintro e w5 ⟨A, c, rfl, hO, hb⟩
       have HB := Lib.hid hb
       clear hO hb))
  go_ret
  refine ⟨?_, HB.out⟩
  go_num
end Go.Proofs.YtpocccnhibjjcaaGreatDoor
