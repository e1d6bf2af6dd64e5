/- A record of no block has no other part; a block's place is one of a device's: the walk. No conditions. -/
import Derived.Test.YtibnmhaipogleaaDoorAwakeN
set_option linter.unusedVariables false
set_option maxRecDepth 20000
namespace Go.Proofs.YtibnmhaipogleaaDoor.nodeKinds
open Go.RowKit

/-- A node of one record. -/
def one (r : RecV) : Nat → RecV := fun j => if j = 0 then r else rec0
theorem built_one (r : RecV) : Tryd.prog.built 27 [(0, .agg r.cs.toArray)] = some (recsC (one r)).toArray := by kernel_rfl
theorem one_ok {r : RecV} (h : r.Ok) (k : Nat) (hk : k < 4) : (one r k).Ok := by
  unfold one
  split
  · exact h
  · exact rec0_ok
theorem one_may {r : RecV} (h : r.may = true) (k : Nat) (hk : k < 4) : (one r k).may = true := by
  unfold one
  split
  · exact h
  · exact rec0_may
/-- What the walk goes by: whether Pack takes it. -/
theorem pack_one {r : RecV} (hr : r.Ok) (w : World) : Calls Tryd.prog 11 #[.agg (recsC (one r)).toArray] w fun e w' => ∃ A n c, e = .returned (.tuple #[.slice A n c, .int .i64 (if r.may = true then 0 else 201)]) ∧ Hid (Below w.heap.size w w') := by
  by_cases h : r.may = true
  · refine (pack_ok (one r) (one_ok hr) (one_may h) w).mono ?_
    rintro e w' ⟨g, rfl, _, _, hb⟩
    exact ⟨_, _, _, by rw [if_pos h], hb⟩
  · refine (pack_not (one r) (one_ok hr) 0 (by omega) (by have e0 : one r 0 = r := rfl; rw [e0]; simpa using h) w).mono ?_
    rintro e w' ⟨rfl, hb⟩
    exact ⟨_, _, _, by rw [if_neg h], hb⟩
set_option maxHeartbeats 1000000 in
theorem walk (r : RecV) (hr : r.Ok) (w : World) : Calls Tryd.prog 9 #[.agg r.cs.toArray] w fun e w' => e = .returned (.bool true) ∧ Below w.heap.size w w' := by
  have i35 : (Tryd.prog.info? 26).map (·.size) = some r.cs.length := by rw [r.cs_len]; exact info_rec
  obtain ⟨C4, hC4⟩ : ∃ C4, C4 = (recsC (one r)).toArray := ⟨_, rfl⟩
  have HB4 := Lib.hid (built_one r)
  have HP := Lib.hid (fun w => pack_one hr w)
  rw [← hC4] at HB4 HP
  have hq := Lib.hid (fun w => eq_recw r rec0 w)
  by_cases hl : 1 ≤ r.a ∧ r.a ≤ 1024
  · obtain ⟨h1, h2⟩ := hl
    have hm : (if r.may = true then (0 : Int) else 201) = 0 := by rw [if_pos (by unfold RecV.may; rw [RecV.leads_yes h1 h2]; rfl)]
    rw [hm] at HP
    clear hC4
    go_enter Tryd.func9, Tryd.ntmps9
    go_wp2_with (first
      | (refine step_box rfl 1 rfl 26 _ rfl r.cs rfl ?_; intro g1 w1 hr1 hg1 hb1 hs1; have HR1 := Lib.hid hr1; have HB1 := Lib.hid hb1; clear hr1 hb1 hg1 hs1)
      | (go_at_call 10; refine (awake_any _).mono ?_; rintro e2 w2 ⟨rfl, hb2⟩
         have HB2 := Lib.hid (HB1.out.trans (hb2.mono HB1.out.size))
         have HR2 := Lib.hid (HR1.out.kept hb2)
         clear hb2)
      | (refine step_load rfl 9 rfl 26 (.tmp 1) rfl g1 rfl r.cs _ HR2.out.all Tryd.underlying26 rfl i35 ?_)
      | (refine step_build rfl 27 #[(0, .tmp 9)] rfl [(0, .agg r.cs.toArray)] ?hv _ HB4.out ?_; case hv => (simp [Act.eval, Act.put]))
      | (go_at_call 11; refine (HP.out _).mono ?_; rintro e3 w3 ⟨A3, n3, c3, rfl, hb3⟩
         have HB3 := Lib.hid (HB2.out.trans (hb3.out.mono HB2.out.size))
         have HR3 := Lib.hid (HR2.out.kept hb3.out)
         have c0 := RecV.c0 HR3.out
         clear hb3))
    go_ret
    exact ⟨rfl, HB3.out⟩
  have hld := RecV.leads_not hl
  by_cases hb : r.eqb rec0 = true
  · have ha : r.a = 0 := RecV.eqb_a hb
    have h1 : ¬ 1 ≤ r.a := by omega
    have hq := Lib.hid (p := ∀ w, (Op.equalIn 10000 26 (.agg r.cs.toArray) (.agg rec0.cs.toArray)).run Tryd.prog w = .ok true w) (by rw [← hb]; exact hq.out)
    have hm : (if r.may = true then (0 : Int) else 201) = 0 := by rw [if_pos (by unfold RecV.may; rw [hb, hld]; rfl)]
    rw [hm] at HP
    clear hC4
    go_enter Tryd.func9, Tryd.ntmps9
    go_wp2_with (first
      | (refine step_box rfl 1 rfl 26 _ rfl r.cs rfl ?_; intro g1 w1 hr1 hg1 hb1 hs1; have HR1 := Lib.hid hr1; have HB1 := Lib.hid hb1; clear hr1 hb1 hg1 hs1)
      | (go_at_call 10; refine (awake_any _).mono ?_; rintro e2 w2 ⟨rfl, hb2⟩
         have HB2 := Lib.hid (HB1.out.trans (hb2.mono HB1.out.size))
         have HR2 := Lib.hid (HR1.out.kept hb2)
         clear hb2)
      | (refine step_load rfl 9 rfl 26 (.tmp 1) rfl g1 rfl r.cs _ HR2.out.all Tryd.underlying26 rfl i35 ?_)
      | (refine step_build rfl 27 #[(0, .tmp 9)] rfl [(0, .agg r.cs.toArray)] ?hv _ HB4.out ?_; case hv => (simp [Act.eval, Act.put]))
      | (go_at_call 11; refine (HP.out _).mono ?_; rintro e3 w3 ⟨A3, n3, c3, rfl, hb3⟩
         have HB3 := Lib.hid (HB2.out.trans (hb3.out.mono HB2.out.size))
         have HR3 := Lib.hid (HR2.out.kept hb3.out)
         have c0 := RecV.c0 HR3.out
         clear hb3)
      | (refine step_load_g (by rfl) 23 rfl 26 (.tmp 1) rfl g1 rfl r.cs _ HR3.out.all Tryd.underlying26 rfl i35 ?_)
      | (refine step_build_g (by rfl) 26 #[] rfl [] ?hv _ rec0_cs ?_; case hv => (simp [Act.eval, Act.put]))
      | (refine step_eql (by rfl) 26 26 (.tmp 23) (.tmp 24) rfl r.cs.toArray rec0.cs.toArray rfl (by rfl) rec_guard true hq.out ?_))
    go_ret
    exact ⟨rfl, HB3.out⟩
  have hb' : r.eqb rec0 = false := by simpa using hb
  have hq := Lib.hid (p := ∀ w, (Op.equalIn 10000 26 (.agg r.cs.toArray) (.agg rec0.cs.toArray)).run Tryd.prog w = .ok false w) (by rw [← hb']; exact hq.out)
  by_cases h1 : 1 ≤ r.a
  · have h2 : decide (r.a ≤ 1024) = false := decide_eq_false (fun h2 => hl ⟨h1, h2⟩)
    have hm : (if r.may = true then (0 : Int) else 201) = 201 := by rw [if_neg (by unfold RecV.may; rw [hb', hld]; decide)]
    rw [hm] at HP
    clear hC4
    go_enter Tryd.func9, Tryd.ntmps9
    go_wp2_with (first
      | (refine step_box rfl 1 rfl 26 _ rfl r.cs rfl ?_; intro g1 w1 hr1 hg1 hb1 hs1; have HR1 := Lib.hid hr1; have HB1 := Lib.hid hb1; clear hr1 hb1 hg1 hs1)
      | (go_at_call 10; refine (awake_any _).mono ?_; rintro e2 w2 ⟨rfl, hb2⟩
         have HB2 := Lib.hid (HB1.out.trans (hb2.mono HB1.out.size))
         have HR2 := Lib.hid (HR1.out.kept hb2)
         clear hb2)
      | (refine step_load rfl 9 rfl 26 (.tmp 1) rfl g1 rfl r.cs _ HR2.out.all Tryd.underlying26 rfl i35 ?_)
      | (refine step_build rfl 27 #[(0, .tmp 9)] rfl [(0, .agg r.cs.toArray)] ?hv _ HB4.out ?_; case hv => (simp [Act.eval, Act.put]))
      | (go_at_call 11; refine (HP.out _).mono ?_; rintro e3 w3 ⟨A3, n3, c3, rfl, hb3⟩
         have HB3 := Lib.hid (HB2.out.trans (hb3.out.mono HB2.out.size))
         have HR3 := Lib.hid (HR2.out.kept hb3.out)
         have c0 := RecV.c0 HR3.out
         clear hb3)
      | (refine step_load_g (by rfl) 23 rfl 26 (.tmp 1) rfl g1 rfl r.cs _ HR3.out.all Tryd.underlying26 rfl i35 ?_)
      | (refine step_build_g (by rfl) 26 #[] rfl [] ?hv _ rec0_cs ?_; case hv => (simp [Act.eval, Act.put]))
      | (refine step_eql (by rfl) 26 26 (.tmp 23) (.tmp 24) rfl r.cs.toArray rec0.cs.toArray rfl (by rfl) rec_guard false hq.out ?_))
    go_ret
    exact ⟨rfl, HB3.out⟩
  · skip
    have hm : (if r.may = true then (0 : Int) else 201) = 201 := by rw [if_neg (by unfold RecV.may; rw [hb', hld]; decide)]
    rw [hm] at HP
    clear hC4
    go_enter Tryd.func9, Tryd.ntmps9
    go_wp2_with (first
      | (refine step_box rfl 1 rfl 26 _ rfl r.cs rfl ?_; intro g1 w1 hr1 hg1 hb1 hs1; have HR1 := Lib.hid hr1; have HB1 := Lib.hid hb1; clear hr1 hb1 hg1 hs1)
      | (go_at_call 10; refine (awake_any _).mono ?_; rintro e2 w2 ⟨rfl, hb2⟩
         have HB2 := Lib.hid (HB1.out.trans (hb2.mono HB1.out.size))
         have HR2 := Lib.hid (HR1.out.kept hb2)
         clear hb2)
      | (refine step_load rfl 9 rfl 26 (.tmp 1) rfl g1 rfl r.cs _ HR2.out.all Tryd.underlying26 rfl i35 ?_)
      | (refine step_build rfl 27 #[(0, .tmp 9)] rfl [(0, .agg r.cs.toArray)] ?hv _ HB4.out ?_; case hv => (simp [Act.eval, Act.put]))
      | (go_at_call 11; refine (HP.out _).mono ?_; rintro e3 w3 ⟨A3, n3, c3, rfl, hb3⟩
         have HB3 := Lib.hid (HB2.out.trans (hb3.out.mono HB2.out.size))
         have HR3 := Lib.hid (HR2.out.kept hb3.out)
         have c0 := RecV.c0 HR3.out
         clear hb3)
      | (refine step_load_g (by rfl) 23 rfl 26 (.tmp 1) rfl g1 rfl r.cs _ HR3.out.all Tryd.underlying26 rfl i35 ?_)
      | (refine step_build_g (by rfl) 26 #[] rfl [] ?hv _ rec0_cs ?_; case hv => (simp [Act.eval, Act.put]))
      | (refine step_eql (by rfl) 26 26 (.tmp 23) (.tmp 24) rfl r.cs.toArray rec0.cs.toArray rfl (by rfl) rec_guard false hq.out ?_))
    go_ret
    exact ⟨rfl, HB3.out⟩
end Go.Proofs.YtibnmhaipogleaaDoor.nodeKinds
