/- The walk of VaultNews, a part. Conditions: the tables lie there. -/
import Derived.Test.YtpocccnhibjjcaaGreatDoorVnl
import Derived.BigGuard
set_option linter.unusedVariables false
set_option maxRecDepth 20000
namespace Go.Proofs.YtpocccnhibjjcaaGreatDoor
open Go.RowKit
set_option maxHeartbeats 40000000 in
theorem news_b (m : Nat) (zd zs : Int) (w : World) (HT : Hid (Tabs w ∧ S8.Tab w)) (HM : Hid (1 ≤ m ∧ m ≤ 1024)) (HS : Hid (∀ w, Calls Tryz.prog 11 #[.int .i64 zd] w fun e w' => e = .returned (.int .i64 (0 : Int)) ∧ w = w')) (HE : Hid (enB zd (m : Int) = false)) : Calls Tryz.prog 3 #[.int .i64 (m : Int), .int .i64 zd, .int .i64 zs] w fun e w' => e = .returned (.bool true) ∧ Below w.heap.size w w' := by
  go_enter Tryz.func3, Tryz.ntmps3
  go_wp2_with (first
    | go_skip
    | go_big_skip
    | (go_at_call 7; refine (awake9_any w HT.out).mono ?_; rintro e0 w0 ⟨rfl, hb⟩; have HB := Lib.hid hb; clear hb)
    | (go_at_call 10; refine (newanchor _).mono ?_; rintro e2 w2 ⟨ga, rfl, hra, hga, hb⟩
       have HNA := Lib.hid hb
       have HB := Lib.hid (below_nxt hb HB.out)
       clear hra hga hb)
    | (go_at_call 8; refine (new_in m HM.out.1 HM.out.2 _).mono ?_; rintro e1 w1 ⟨gd, FD, x, rfl, hx, hD, hb⟩
       have HD := Lib.hid hD
       have HB := Lib.hid (below_nxt hb HB.out)
       clear hx hD hb)
    | (go_at_call 9; refine (new_few (ga := ga) none (HD.out.kept HNA.out) zd (by rw [List.length_replicate]; exact HE.out)).mono ?_; rintro e3 w3 ⟨rfl, hb⟩; have HB := Lib.hid (below_nxt hb HB.out); clear hb HD)
    | (go_at_call 9; refine (new_noa ⟨gd, 0, none⟩ none zd _).mono ?_; rintro e3 w3 ⟨rfl, hb⟩; have HB := Lib.hid (below_nxt hb HB.out); clear hb)
    | (go_at_call 11; refine (HS.out _).mono ?_; rintro e6 w6 ⟨rfl, rfl⟩)
    | (go_at_call 13; refine (nv_mount _).mono ?_; rintro e5 w5 ⟨rfl, hb⟩; have HB := Lib.hid (below_nxt hb HB.out); clear hb)
    | (go_at_call 14; refine (nv_push _).mono ?_; rintro e5 w5 ⟨rfl, hb⟩; have HB := Lib.hid (below_nxt hb HB.out); clear hb)
    | (go_at_call 15; refine (nv_get zs _).mono ?_; rintro e5 w5 ⟨rfl, hb⟩; have HB := Lib.hid (below_nxt hb HB.out); clear hb)
    | (go_at_call 16; refine (nv_peek zs _).mono ?_; rintro e5 w5 ⟨rfl, hb⟩; have HB := Lib.hid (below_nxt hb HB.out); clear hb)
    | (go_at_call 17; refine (nv_fetch zs _).mono ?_; rintro e5 w5 ⟨rfl, hb⟩; have HB := Lib.hid (below_nxt hb HB.out); clear hb)
    | (go_at_call 18; refine (nv_put zs _).mono ?_; rintro e5 w5 ⟨rfl, hb⟩; have HB := Lib.hid (below_nxt hb HB.out); clear hb)
    | (go_at_call 19; refine (nv_ready _).mono ?_; rintro e5 w5 ⟨rfl, hb⟩; have HB := Lib.hid (below_nxt hb HB.out); clear hb)
    | (go_at_call 20; refine (nv_known zs _).mono ?_; rintro e5 w5 ⟨rfl, hb⟩; have HB := Lib.hid (below_nxt hb HB.out); clear hb)
    | (go_at_call 21; refine (nv_begin _).mono ?_; rintro e5 w5 ⟨rfl, hb⟩; have HB := Lib.hid (below_nxt hb HB.out); clear hb)
    | (go_at_call 22; refine (nv_going _).mono ?_; rintro e5 w5 ⟨rfl, hb⟩; have HB := Lib.hid (below_nxt hb HB.out); clear hb)
    | (go_at_call 23; refine (nv_changed _).mono ?_; rintro e5 w5 ⟨rfl, hb⟩; have HB := Lib.hid (below_nxt hb HB.out); clear hb)
    | (go_at_call 24; refine (nv_epoch _).mono ?_; rintro e5 w5 ⟨rfl, hb⟩; have HB := Lib.hid (below_nxt hb HB.out); clear hb)
    | (go_at_call 25; refine (nv_free _).mono ?_; rintro e5 w5 ⟨rfl, hb⟩; have HB := Lib.hid (below_nxt hb HB.out); clear hb)
    | (go_at_call 26; refine (nv_uses _).mono ?_; rintro e5 w5 ⟨rfl, hb⟩; have HB := Lib.hid (below_nxt hb HB.out); clear hb))
  go_ret
  exact ⟨rfl, HB.out⟩
end Go.Proofs.YtpocccnhibjjcaaGreatDoor
