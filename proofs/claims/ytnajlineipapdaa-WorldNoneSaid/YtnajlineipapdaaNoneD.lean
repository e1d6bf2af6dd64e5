/- The law WorldNone, walked: of no disk and no anchor nothing is told. No conditions. -/
import Derived.Test.YtnajlineipapdaaNilD
set_option linter.unusedVariables false
namespace Go.Proofs.Ytnajlineipapdaa
open Go.RowKit

theorem set_nil' (w : World) (cs : Array Value) (hcs : cs = (rootC 1).toArray) : Calls Try.prog 33 #[.pointer none, .agg cs] w fun x w' => x = .returned (.int .i64 205) ∧ Below w.heap.size w w' := by
  subst hcs
  exact set_nil w 1
theorem root_eq (W : World) : (Op.equalIn 10000 63 (.agg (rootC 0).toArray) (.agg (rootC 0).toArray)).run Try.prog W = .ok true W := by kernel_rfl
set_option maxRecDepth 20000 in
set_option maxHeartbeats 400000 in
theorem none_any (z : Int) (A0 : Option Addr) (n0 c0 : Nat) (k a n : Int) (A : Option Addr) (m c : Nat) (w : World) :
    Calls Try.prog 5 #[.int .i64 z, .slice A0 n0 c0, .agg #[.int .i64 k, .int .i64 a, .int .i64 n, .slice A m c]] w fun e w' => e = .returned (.bool true) ∧ Below w.heap.size w w' := by
  have heq0 : ∀ W : World, (Op.equal 63 (.agg (rootC 0).toArray) (.agg (Value.int .u32 0 :: Value.int .i64 0 :: Value.int .u32 0 :: Value.int .u32 0 :: Value.int .u8 0 :: Value.int .u8 0 :: Value.int .u8 0 :: Value.int .u8 0 :: Value.int .u8 0 :: Value.int .u8 0 :: Value.int .u8 0 :: Value.int .u8 0 :: Value.int .u8 0 :: Value.int .u8 0 :: Value.int .u8 0 :: Value.int .u8 0 :: Value.int .u8 0 :: Value.int .u8 0 :: Value.int .u8 0 :: Value.int .u8 0 :: Value.int .u8 0 :: Value.int .u8 0 :: Value.int .u8 0 :: Value.int .u8 0 :: Value.int .u8 0 :: Value.int .u8 0 :: Value.int .u8 0 :: Value.int .u8 0 :: Value.int .u8 0 :: Value.int .u8 0 :: Value.int .u8 0 :: Value.int .u8 0 :: Value.int .u8 0 :: Value.int .u8 0 :: Value.int .u8 0 :: Value.int .u8 0 :: []).toArray)).run Try.prog W = .ok true W := fun W => by kernel_rfl
  have heq1 : ∀ W : World, (Op.equalIn 10000 63 (.agg (rootC 0).toArray) (.agg (Value.int .u32 0 :: Value.int .i64 0 :: Value.int .u32 0 :: Value.int .u32 0 :: Value.int .u8 0 :: Value.int .u8 0 :: Value.int .u8 0 :: Value.int .u8 0 :: Value.int .u8 0 :: Value.int .u8 0 :: Value.int .u8 0 :: Value.int .u8 0 :: Value.int .u8 0 :: Value.int .u8 0 :: Value.int .u8 0 :: Value.int .u8 0 :: Value.int .u8 0 :: Value.int .u8 0 :: Value.int .u8 0 :: Value.int .u8 0 :: Value.int .u8 0 :: Value.int .u8 0 :: Value.int .u8 0 :: Value.int .u8 0 :: Value.int .u8 0 :: Value.int .u8 0 :: Value.int .u8 0 :: Value.int .u8 0 :: Value.int .u8 0 :: Value.int .u8 0 :: Value.int .u8 0 :: Value.int .u8 0 :: Value.int .u8 0 :: Value.int .u8 0 :: Value.int .u8 0 :: Value.int .u8 0 :: []).toArray)).run Try.prog W = .ok true W := fun W => by kernel_rfl
  go_enter Try.func5, Try.ntmps5
  go_wp2_with (first
    | (go_at_call 8; refine (awake_any _).mono ?_; rintro e1 w1 ⟨rfl, hb1⟩
       have hb2 : Below w.heap.size w w1 := ((Below.refl w.heap.size w).alloc (Nat.le_refl _) (.cells #[.int .i64 k, .int .i64 a, .int .i64 n, .slice A m c] 35)).trans (hb1.mono (by simp))
       have t0 : w1.cell? ⟨w.heap.size, 0, none⟩ = some (.int .i64 k) := (hb1.cell (p := ⟨w.heap.size, 0, none⟩) (by simp)).trans (by simp)
       have t1 : w1.cell? ⟨w.heap.size, 1, none⟩ = some (.int .i64 a) := (hb1.cell (p := ⟨w.heap.size, 1, none⟩) (by simp)).trans (by simp)
       have t2 : w1.cell? ⟨w.heap.size, 2, none⟩ = some (.int .i64 n) := (hb1.cell (p := ⟨w.heap.size, 2, none⟩) (by simp)).trans (by simp)
       have t3 : w1.cell? ⟨w.heap.size, 3, none⟩ = some (.slice A m c) := (hb1.cell (p := ⟨w.heap.size, 3, none⟩) (by simp)).trans (by simp)
       have HB1 := Lib.hid hb2
       have HZ := Lib.hid (p := w.heap.size < w1.heap.size) (by have := hb1.size; simp at this; omega)
       clear hb1 hb2)
    | (go_at_call 13; refine (nread z _).mono ?_; rintro e2 w2 ⟨rfl, hw2⟩; obtain rfl := hw2.symm)
    | (go_at_call 15; refine (npeek z _).mono ?_; rintro e2 w2 ⟨rfl, hw2⟩; obtain rfl := hw2.symm)
    | (go_at_call 20; refine (nbarrier _).mono ?_; rintro e2 w2 ⟨rfl, hw2⟩; obtain rfl := hw2.symm)
    | (go_at_call 22; refine (ncrash _ _ ⟨_, _, _, rfl⟩).mono ?_; rintro e3 w3 ⟨rfl, hb3⟩
       have hb31 : Below w1.heap.size w1 w3 := ((Below.refl w1.heap.size w1).alloc (Nat.le_refl _) (.cells #[.bool true] 4)).trans (hb3.mono (by simp))
       have s0 := (hb31.cell (p := ⟨w.heap.size, 0, none⟩) HZ.out).trans t0
       have s1 := (hb31.cell (p := ⟨w.heap.size, 1, none⟩) HZ.out).trans t1
       have s2 := (hb31.cell (p := ⟨w.heap.size, 2, none⟩) HZ.out).trans t2
       have s3 := (hb31.cell (p := ⟨w.heap.size, 3, none⟩) HZ.out).trans t3
       have HB3 := Lib.hid (below_nxt hb31 HB1.out)
       clear hb3 hb31)
    | (go_at_call 18; refine (nwrite z _ _ _ _).mono ?_; rintro e2 w2 ⟨rfl, hw2⟩; obtain rfl := hw2.symm)
    | (go_at_call 24; refine (ntamper k a n _ _ _ _).mono ?_; rintro e4 w4 ⟨rfl, hb4⟩
       have HB4 := Lib.hid (below_nxt hb4 HB3.out)
       clear hb4)
    | (go_at_call 12; refine (nblocks _).mono ?_; rintro e2 w2 ⟨rfl, hw2⟩; obtain rfl := hw2.symm)
    | (go_at_call 26; refine (nwaiting _).mono ?_; rintro e2 w2 ⟨rfl, hw2⟩; obtain rfl := hw2.symm)
    | (go_at_call 28; refine (ntrace _).mono ?_; rintro e2 w2 ⟨rfl, hw2⟩; obtain rfl := hw2.symm)
    | (go_at_call 32; refine (nget _).mono ?_; rintro e5 w5 ⟨rfl, hb5⟩
       have HB5 := Lib.hid (below_nxt hb5 HB4.out)
       clear hb5)
    | (go_at_call 33; refine (set_nil' _ _ (by kernel_rfl)).mono ?_; rintro e6 w6 ⟨rfl, hb6⟩
       have HB6 := Lib.hid (below_nxt hb6 HB5.out)
       clear hb6)
    | (go_at_call 34; refine (natrace _).mono ?_; rintro e2 w2 ⟨rfl, hw2⟩; obtain rfl := hw2.symm)
    | (go_at_call 35; refine (natouched _).mono ?_; rintro e2 w2 ⟨rfl, hw2⟩; obtain rfl := hw2.symm)
    | (go_at_call 29; refine (ntouched _).mono ?_; rintro e2 w2 ⟨rfl, hw2⟩; obtain rfl := hw2.symm))
  go_ret
  exact ⟨rfl, HB6.out⟩
end Go.Proofs.Ytnajlineipapdaa
