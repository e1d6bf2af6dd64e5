/- The walk of DirTold. Conditions: the library's tables lie there, lengths are within the reach. -/
import Derived.Test.YtijffkklhgnknaaDoorRm
import Derived.Test.YtijffkklhgnknaaDoorRj
import Derived.Test.YtijffkklhgnknaaDoorRl
import Derived.Test.YtijffkklhgnknaaDoorQt
set_option linter.unusedVariables false
set_option maxRecDepth 20000
namespace Go.Proofs.YtijffkklhgnknaaDoor
open Go.RowKit
theorem reach_lt : reachBytes ≤ 140737488355328 := by decide
theorem same_told {L M : List Ent} {X : List Ent} (h1 : Ord Ent.ck L) (h2 : SameK Ent.ck X L) (h3 : Ord Ent.ck M) (h4 : SameK Ent.ck X M) : L = M := ord_one L M h1 h3 (h2.symm.trans h4)
set_option maxHeartbeats 2000000 in
theorem toldW (A : Option Addr) (n c after : Nat) (room : Int) (X : List Ent) (w : World) (hT : Tabs w) (I : InE w A n c X) (hlo : -9223372036854775808 ≤ room) (hhi : room ≤ 9223372036854775807) : Calls Tryd.prog 5 #[.slice A n c, .int .u32 (after : Int), .int .i64 room] w fun e w' => e = .returned (.bool true) ∧ Below w.heap.size w w' := by
  have HT := Lib.hid hT
  have HI := Lib.hid I
  have HR := Lib.hid (And.intro hlo hhi)
  have HN := Lib.hid (p := n ≤ 9223372036854775807 ∧ ∀ e ∈ X, e.nm.size ≤ 140737488355328) ⟨by have := I.reach; have := reach_lt; omega, fun e he => Nat.le_trans (I.ok e he).1 reach_lt⟩
  clear hT I hlo hhi
  go_enter Tryd.func5, Tryd.ntmps5
  go_wp2_with (first
    | (go_at_call 9; refine (awake_any _ HT.out).mono ?_; rintro e w2 ⟨rfl, hb⟩
       have B2 := Lib.hid hb
       clear hb)
    | (go_at_call 10; refine (small_any A n c X HN.out.1 _ (HI.out.lies.below B2.out) HI.out.len_ HN.out.2).mono ?_; rintro e w3 ⟨⟨z, rfl, hz⟩, hb⟩
       have HZ := Lib.hid hz
       have B3 := Lib.hid (below_nxt hb B2.out)
       clear hz hb
       cases z)
    | (go_at_call 17; refine (told_any A n c after room X (by have := (HZ.out (by trivial)).1; omega) _ (HI.out.lies.below B3.out) HI.out.len_ (fun e he => by have := (HZ.out (by trivial)).2 e he; omega) HR.out.1 HR.out.2).mono ?_; rintro e w4 ⟨A4, c4, k4, L4, rfl, ho, hk, h1, h2, hb⟩
       have HO4 := Lib.hid ho
       have HL4 := Lib.hid (And.intro hk (And.intro h1 h2))
       have B4 := Lib.hid (below_nxt hb B3.out)
       clear ho hk h1 h2 hb)
    | (go_at_call 18; refine (rtold_any A n c after room X (by have := (HZ.out (by trivial)).1; omega) _ (HI.out.lies.below B4.out) HI.out.len_ (fun e he => by have := (HZ.out (by trivial)).2 e he; omega) HR.out.1 HR.out.2).mono ?_; rintro e w5 ⟨A5, c5, k5, L5, rfl, ho, hk, h1, h2, hb⟩
       obtain rfl : L4 = L5 := same_told HL4.out.2.1 HL4.out.2.2 h1 h2
       obtain rfl : k4 = k5 := HL4.out.1.trans hk.symm
       have HO5 := Lib.hid ho
       have HO45 := Lib.hid (own_kept HO4.out hb)
       have B5 := Lib.hid (below_nxt hb B4.out)
       clear ho hk h1 h2 hb)
    | (go_at_call 14; refine (lists_same A4 A5 k4 c4 c5 (L4.take k4) (by have h1 := HL4.out.1; have h2 := fit_le room L4; have h3 := HL4.out.2.2.len; have h4 := List.length_filter_le (fun e : Ent => decide (after < e.ck)) X; have h5 := HI.out.len_; have := (HZ.out (by trivial)).1; omega) (by have h1 := HO45.out.1; rw [flat_len ecs_len] at h1; omega) _ (Lies.own (by decide) ecs_len HO45.out) (Lies.own (by decide) ecs_len HO5.out)).mono ?_; rintro e w6 ⟨rfl, hb⟩
       have B6 := Lib.hid (below_nxt hb B5.out)
       clear hb))
  · go_ret
    exact ⟨rfl, B3.out⟩
  · go_ret
    exact ⟨rfl, B6.out⟩
end Go.Proofs.YtijffkklhgnknaaDoor
