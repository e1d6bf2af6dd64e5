/- Numbers put behind bytes by the reference, under names. Conditions: those named. -/
import Derived.Test.YtibnmhaipogleaaDoorRPut
import Derived.Test.YtibnmhaipogleaaDoorKept
import Derived.Test.YtibnmhaipogleaaDoorNodeR
set_option linter.unusedVariables false
namespace Go.Proofs.YtibnmhaipogleaaDoor
open Go.RowKit

theorem rput4' (A : Option Addr) (c n : Nat) (l : List UInt8) (x : Nat) (hn : n = l.length) (w : World) (hA : Hol w A l) (hx : x < 4294967296) (hl : l.length ≤ 100) :
    Calls Tryd.prog 37 #[.slice A n c, .int .i64 4, .int .u64 x] w fun e w' => ∃ A' c' m, e = .returned (.tuple #[.slice A' m c', .int .i64 0]) ∧ Hid (m = l.length + 4) ∧ Hid (Hol w' A' (l ++ leb x 4)) ∧ Hid (Below w.heap.size w w') := by
  subst hn
  refine (rput4 A c l x w hA hx (by omega)).mono ?_
  rintro e w' ⟨v, rfl, hown, hb⟩
  obtain ⟨hm, A', c', rfl, _, _, hH⟩ := own_form hown
  exact ⟨A', c', _, rfl, hm.symm, hH, hb⟩
theorem rput8' (A : Option Addr) (c n : Nat) (l : List UInt8) (x : Nat) (hn : n = l.length) (w : World) (hA : Hol w A l) (hx : x < 18446744073709551616) (hl : l.length ≤ 100) :
    Calls Tryd.prog 37 #[.slice A n c, .int .i64 8, .int .u64 x] w fun e w' => ∃ A' c' m, e = .returned (.tuple #[.slice A' m c', .int .i64 0]) ∧ Hid (m = l.length + 8) ∧ Hid (Hol w' A' (l ++ leb x 8)) ∧ Hid (Below w.heap.size w w') := by
  subst hn
  refine (rput8 A c l x w hA hx (by omega)).mono ?_
  rintro e w' ⟨v, rfl, hown, hb⟩
  obtain ⟨hm, A', c', rfl, _, _, hH⟩ := own_form hown
  exact ⟨A', c', _, rfl, hm.symm, hH, hb⟩
end Go.Proofs.YtibnmhaipogleaaDoor
/- Whether a record may be, and a record as bytes, by the reference: what each call leaves. Conditions: those named. -/
set_option linter.unusedVariables false
set_option maxRecDepth 20000
namespace Go.Proofs.YtibnmhaipogleaaDoor
open Go.RowKit

/-- An operation whose guard is struck. -/
theorem step_skip {P : Program} {ops : Array Oper} {rest : List Oper} {o : Oper} {a : Act} {w : World} {Q : Exit → Act → World → Prop} (hw : Region.wanted o (yielded ops a.tmps) = false) (h : wpList P ops Q rest (a.put o.dst undef) w) : wpList P ops Q (o :: rest) a w := by
  refine wpList_step fun K hK => ?_
  rw [if_neg (by rw [hw]; decide)]
  exact hK _ _ h
theorem RecV.may_alt (r : RecV) : r.may = (r.eqb rec0 || r.leads) := by unfold RecV.may; exact Bool.or_comm _ _
set_option maxHeartbeats 1000000 in
theorem rmay_any (r : RecV) (w : World) : Calls Tryd.prog 27 #[.agg r.cs.toArray] w fun e w' => e = .returned (.bool r.may) ∧ Below w.heap.size w w' := by
  have i35 := Lib.hid (p := ∀ r : RecV, (Tryd.prog.info? 26).map (·.size) = some r.cs.length) (fun r => by rw [r.cs_len]; exact info_rec)
  have hz := Lib.hid zero_rec
  have HZ := Lib.hid rec0_cs
  rw [RecV.may_alt]
  have hq := Lib.hid (fun w => eq_recw r rec0 w)
  obtain ⟨Z, hZ⟩ : ∃ Z, Z = rec0 := ⟨_, rfl⟩
  rw [← hZ] at hz HZ hq
  rw [← hZ]
  clear hZ
  cases he : r.eqb Z
  · rw [he] at hq
    clear he
    by_cases h1 : 1 ≤ r.a
    · by_cases h2 : r.a ≤ 1024
      · rw [RecV.leads_yes h1 h2]
        go_enter Tryd.func27, Tryd.ntmps27
        go_wp2_with (first
          | (refine step_box rfl 1 rfl 26 _ rfl r.cs rfl ?_; intro g1 w1 hr1 hg1 hb1 hs1)
          | (refine step_build rfl 26 #[] rfl [] ?hv _ HZ.out ?_; case hv => simp)
          | (refine step_alloc rfl 3 rfl 26 rfl _ hz ?_; intro g3 w3 hr3 hg3 hb3 hs3)
          | (refine step_store rfl 26 (.tmp 3) (.tmp 4) rfl g3 (by rfl) _ Z.cs Z.cs (by rfl) hr3 rfl (i35.out _) (RecV.cs_one _) ?_; intro w4 hr4 hg4 hs4
             have HR1 := Lib.hid ((hr1.kept hb3).grown hg4 (fun e => by injection e with e; have := hr1.lt; have := hg3.out; omega))
             have HR4 := Lib.hid hr4
             have c0 := RecV.c0 HR1.out
             have HB := Lib.hid (p := Below w.heap.size w w4) (hb1.trans ((hb3.grown hg4 hb3.size (fun q hq => by injection hq with hq; subst hq; rw [hg3.out]; exact Nat.le_refl _)).mono hb1.size))
             clear hr1 hg1 hb1 hs1 hr3 hg3 hb3 hs3 hr4 hg4 hs4)
          | (refine step_load rfl 5 rfl 26 (.tmp 1) rfl g1 rfl r.cs _ HR1.out.all Tryd.underlying26 rfl (i35.out _) ?_)
          | (refine step_load rfl 6 rfl 26 (.tmp 3) rfl g3 rfl Z.cs _ HR4.out.all Tryd.underlying26 rfl (i35.out _) ?_)
          | (refine step_eql (by rfl) 26 26 (.tmp 5) (.tmp 6) rfl r.cs.toArray Z.cs.toArray rfl rfl rec_guard false hq.out ?_))
        go_ret
        exact ⟨rfl, HB.out⟩
      · rw [RecV.leads_not (fun h => h2 h.2)]
        have d2 : decide (r.a ≤ 1024) = false := decide_eq_false h2
        clear h2
        go_enter Tryd.func27, Tryd.ntmps27
        go_wp2_with (first
          | (refine step_box rfl 1 rfl 26 _ rfl r.cs rfl ?_; intro g1 w1 hr1 hg1 hb1 hs1)
          | (refine step_build rfl 26 #[] rfl [] ?hv _ HZ.out ?_; case hv => simp)
          | (refine step_alloc rfl 3 rfl 26 rfl _ hz ?_; intro g3 w3 hr3 hg3 hb3 hs3)
          | (refine step_store rfl 26 (.tmp 3) (.tmp 4) rfl g3 (by rfl) _ Z.cs Z.cs (by rfl) hr3 rfl (i35.out _) (RecV.cs_one _) ?_; intro w4 hr4 hg4 hs4
             have HR1 := Lib.hid ((hr1.kept hb3).grown hg4 (fun e => by injection e with e; have := hr1.lt; have := hg3.out; omega))
             have HR4 := Lib.hid hr4
             have c0 := RecV.c0 HR1.out
             have HB := Lib.hid (p := Below w.heap.size w w4) (hb1.trans ((hb3.grown hg4 hb3.size (fun q hq => by injection hq with hq; subst hq; rw [hg3.out]; exact Nat.le_refl _)).mono hb1.size))
             clear hr1 hg1 hb1 hs1 hr3 hg3 hb3 hs3 hr4 hg4 hs4)
          | (refine step_load rfl 5 rfl 26 (.tmp 1) rfl g1 rfl r.cs _ HR1.out.all Tryd.underlying26 rfl (i35.out _) ?_)
          | (refine step_load rfl 6 rfl 26 (.tmp 3) rfl g3 rfl Z.cs _ HR4.out.all Tryd.underlying26 rfl (i35.out _) ?_)
          | (refine step_eql (by rfl) 26 26 (.tmp 5) (.tmp 6) rfl r.cs.toArray Z.cs.toArray rfl rfl rec_guard false hq.out ?_))
        go_ret
        exact ⟨rfl, HB.out⟩
    · rw [RecV.leads_not (fun h => h1 h.1)]
      have d1 : decide (1 ≤ r.a) = false := decide_eq_false h1
      clear h1
      go_enter Tryd.func27, Tryd.ntmps27
      go_wp2_with (first
        | (refine step_box rfl 1 rfl 26 _ rfl r.cs rfl ?_; intro g1 w1 hr1 hg1 hb1 hs1)
        | (refine step_build rfl 26 #[] rfl [] ?hv _ HZ.out ?_; case hv => simp)
        | (refine step_alloc rfl 3 rfl 26 rfl _ hz ?_; intro g3 w3 hr3 hg3 hb3 hs3)
        | (refine step_store rfl 26 (.tmp 3) (.tmp 4) rfl g3 (by rfl) _ Z.cs Z.cs (by rfl) hr3 rfl (i35.out _) (RecV.cs_one _) ?_; intro w4 hr4 hg4 hs4
           have HR1 := Lib.hid ((hr1.kept hb3).grown hg4 (fun e => by injection e with e; have := hr1.lt; have := hg3.out; omega))
           have HR4 := Lib.hid hr4
           have c0 := RecV.c0 HR1.out
           have HB := Lib.hid (p := Below w.heap.size w w4) (hb1.trans ((hb3.grown hg4 hb3.size (fun q hq => by injection hq with hq; subst hq; rw [hg3.out]; exact Nat.le_refl _)).mono hb1.size))
           clear hr1 hg1 hb1 hs1 hr3 hg3 hb3 hs3 hr4 hg4 hs4)
        | (refine step_load rfl 5 rfl 26 (.tmp 1) rfl g1 rfl r.cs _ HR1.out.all Tryd.underlying26 rfl (i35.out _) ?_)
        | (refine step_load rfl 6 rfl 26 (.tmp 3) rfl g3 rfl Z.cs _ HR4.out.all Tryd.underlying26 rfl (i35.out _) ?_)
        | (refine step_eql (by rfl) 26 26 (.tmp 5) (.tmp 6) rfl r.cs.toArray Z.cs.toArray rfl rfl rec_guard false hq.out ?_))
      go_ret
      exact ⟨rfl, HB.out⟩
  · rw [he] at hq
    clear he
    show Calls _ _ _ _ fun e w' => e = .returned (.bool true) ∧ Below w.heap.size w w'
    go_enter Tryd.func27, Tryd.ntmps27
    go_wp2_with (first
      | (refine step_box rfl 1 rfl 26 _ rfl r.cs rfl ?_; intro g1 w1 hr1 hg1 hb1 hs1)
      | (refine step_build rfl 26 #[] rfl [] ?hv _ HZ.out ?_; case hv => simp)
      | (refine step_alloc rfl 3 rfl 26 rfl _ hz ?_; intro g3 w3 hr3 hg3 hb3 hs3)
      | (refine step_store rfl 26 (.tmp 3) (.tmp 4) rfl g3 (by rfl) _ Z.cs Z.cs (by rfl) hr3 rfl (i35.out _) (RecV.cs_one _) ?_; intro w4 hr4 hg4 hs4
         have HR1 := Lib.hid ((hr1.kept hb3).grown hg4 (fun e => by injection e with e; have := hr1.lt; have := hg3.out; omega))
         have HR4 := Lib.hid hr4
         have c0 := RecV.c0 HR1.out
         have HB := Lib.hid (p := Below w.heap.size w w4) (hb1.trans ((hb3.grown hg4 hb3.size (fun q hq => by injection hq with hq; subst hq; rw [hg3.out]; exact Nat.le_refl _)).mono hb1.size))
         clear hr1 hg1 hb1 hs1 hr3 hg3 hb3 hs3 hr4 hg4 hs4)
      | (refine step_load rfl 5 rfl 26 (.tmp 1) rfl g1 rfl r.cs _ HR1.out.all Tryd.underlying26 rfl (i35.out _) ?_)
      | (refine step_load rfl 6 rfl 26 (.tmp 3) rfl g3 rfl Z.cs _ HR4.out.all Tryd.underlying26 rfl (i35.out _) ?_)
      | (refine step_eql (by rfl) 26 26 (.tmp 5) (.tmp 6) rfl r.cs.toArray Z.cs.toArray rfl rfl rec_guard true hq.out ?_; go_wp2))
    go_ret
    exact ⟨rfl, HB.out⟩

set_option maxHeartbeats 1000000 in
theorem rput2' (A : Option Addr) (c n : Nat) (l : List UInt8) (x : Nat) (hn : n = l.length) (w : World) (hA : Hol w A l) (hx : x < 65536) (hl : l.length ≤ 100) :
    Calls Tryd.prog 37 #[.slice A n c, .int .i64 2, .int .u64 x] w fun e w' => ∃ A' c' m, e = .returned (.tuple #[.slice A' m c', .int .i64 0]) ∧ Hid (m = l.length + 2) ∧ Hid (Hol w' A' (l ++ leb x 2)) ∧ Hid (Below w.heap.size w w') := by
  subst hn
  refine (rput_app A c l 2 x w hA (by omega) (by omega) (by omega) (by omega) (by omega) (.inr (.inl ⟨rfl, rfl⟩))).mono ?_
  rintro e w' ⟨v, rfl, hown, hb⟩
  obtain ⟨hm, A', c', rfl, _, _, hH⟩ := own_form hown
  exact ⟨A', c', _, rfl, hm.symm, hH, hb⟩
/-- The last number's bytes, the call's own. -/
theorem rput4o (A : Option Addr) (c n : Nat) (l : List UInt8) (x : Nat) (hn : n = l.length) (w : World) (hA : Hol w A l) (hx : x < 4294967296) (hl : l.length ≤ 100) :
    Calls Tryd.prog 37 #[.slice A n c, .int .i64 4, .int .u64 x] w fun e w' => ∃ A' m c', e = .returned (.tuple #[.slice A' m c', .int .i64 0]) ∧ Hid (m = l.length + 4) ∧ Hid (w'.ownsRow w.heap.size 5 1 (.slice A' m c') m (bc (l ++ leb x 4))) ∧ Hid (Below w.heap.size w w') := by
  subst hn
  refine (rput4 A c l x w hA hx (by omega)).mono ?_
  rintro e w' ⟨v, rfl, hown, hb⟩
  obtain ⟨A', c', rfl⟩ := own_sl hown
  exact ⟨A', _, c', rfl, rfl, hown, hb⟩
set_option maxHeartbeats 1000000 in
theorem rrecord_any (r : RecV) (k : Nat) (hk : r.a = (k : Int)) (hk2 : k < 65536) (hr : r.Ok) (w : World) : Calls Tryd.prog 28 #[.agg r.cs.toArray] w (OwnB r.b w) := by
  obtain ⟨i, U⟩ := u8_tab
  have wk := wrap_u64n (show k < 4294967296 by omega)
  have we := wrap_u64n hr.e
  have ws := wrap_u64n hr.s
  have HK2 := Lib.hid hk2
  have HR := Lib.hid hr
  have HK := Lib.hid hk
  clear hk2 hr
  go_enter Tryd.func28, Tryd.ntmps28
  go_wp2_with (first
    | (refine step_box rfl 1 rfl 26 _ rfl r.cs rfl ?_; intro g w1 hr1 hg hb1 hs
       have c0 : w1.cell? ⟨g, 0, none⟩ = some (.int .i64 (k : Int)) := by rw [RecV.c0 hr1, hk]
       have HR1 := Lib.hid hr1
       have HB1 := Lib.hid hb1
       clear hr1 hb1 hg hs hk)
    | (go_at_call_of 37 (Value.int IntKind.u64 (k : Int)); refine (rput2' none 0 0 [] k rfl _ .none_ HK2.out (by simp)).mono ?_; rintro e2 w2 ⟨A2, c2, m2, rfl, hm2, hH2, hb2⟩
       have HB2 := Lib.hid (HB1.out.trans (hb2.out.mono HB1.out.size))
       have HR2 := Lib.hid (HR1.out.kept hb2.out)
       have d1 := RecV.c1 HR2.out
       clear hb2)
    | (go_at_call_of 37 (Value.int IntKind.u64 (r.e : Int)); refine (rput4' A2 c2 m2 ([] ++ leb k 2) r.e (hm2.out.trans (by simp [leb_len])) _ hH2.out HR.out.e (by simp [leb_len])).mono ?_; rintro e3 w3 ⟨A3, c3, m3, rfl, hm3, hH3, hb3⟩
       have HB3 := Lib.hid (HB2.out.trans (hb3.out.mono HB2.out.size))
       have HR3 := Lib.hid (HR2.out.kept hb3.out)
       have d2 := RecV.c2 HR3.out
       clear hb3)
    | (go_at_call_of 37 (Value.int IntKind.u64 (r.s : Int)); refine (rput4o A3 c3 m3 ([] ++ leb k 2 ++ leb r.e 4) r.s (hm3.out.trans (by simp [leb_len])) _ hH3.out HR.out.s (by simp [leb_len])).mono ?_; rintro e4 w4 ⟨A4, m4, c4, rfl, hm4, ho4, hb4⟩
       have HB4 := Lib.hid (HB3.out.trans (hb4.out.mono HB3.out.size))
       have HR4 := Lib.hid (HR3.out.kept hb4.out)
       have HL4 := Lib.hid (RecV.hol_l HR4.out)
       have HO4 := Lib.hid (World.ownsRow.mono ho4.out HB3.out.size)
       have HS4 := Lib.hid HB4.out.size
       clear hb4 ho4)
    | (at_builtin; refine wpList_app _ rfl _ _ _ rfl 5 i U w.heap.size _ m4 _ rfl HO4.out (some ⟨g, 3, none⟩) 32 32 r.l rfl (r.l_len.symm) HL4.out (by have := hm4.out; simp [leb_len] at this; omega) HS4.out ?_; intro v5 w5 ho5 hg5 hat5; obtain ⟨A5, c5, rfl⟩ := own_sl ho5))
  go_ret
  have e9 : r.b = [] ++ leb k 2 ++ leb r.e 4 ++ leb r.s 4 ++ r.l := by unfold RecV.b nonB; rw [HK.out]; simp
  have hn5 : m4 + 32 = r.b.length := by rw [r.b_len, hm4.out]; simp [leb_len]
  refine ⟨A5, m4 + 32, c5, rfl, hn5, ?_, HB4.out.grown hg5 HS4.out (fun q hq => (HO4.out.lt q hq).1)⟩
  rw [e9, bc_app (b := r.l)]
  exact ho5
end Go.Proofs.YtibnmhaipogleaaDoor
