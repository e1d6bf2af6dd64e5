/- Another record changes its own bytes of a node's block and no others: the walk. No conditions. -/
import Derived.Test.YtibnmhaipogleaaDoorAwakeN
import Derived.Test.YtibnmhaipogleaaDoorBin
set_option linter.unusedVariables false
set_option maxRecDepth 20000
namespace Go.Proofs.YtibnmhaipogleaaDoor
open Go.RowKit

theorem row_setCells {g : Nat} {t : TypeId} : ∀ (xs : List Value) (o : Nat) (w : World) (cs : List Value), Row w g t cs → o + xs.length ≤ cs.length →
    Row (w.setCells g o xs) g t (cs.take o ++ (xs ++ cs.drop (o + xs.length))) ∧ w.grownBy (w.setCells g o xs) (some g)
  | [], o, w, cs, h, _ => by
    refine ⟨?_, rfl, rfl, rfl, Nat.le_refl _, fun _ _ _ => rfl⟩
    rw [List.length_nil, Nat.add_zero, List.nil_append, List.take_append_drop]
    exact h
  | v :: r, o, w, cs, h, hl => by
    have hl' : o + (r.length + 1) ≤ cs.length := by simpa using hl
    obtain ⟨h1, h2⟩ := row_setCells r (o + 1) (w.setCell ⟨g, o, none⟩ v) (cs.set o v) (h.put o v) (by rw [List.length_set]; omega)
    have e1 : (cs.set o v).take (o + 1) = cs.take o ++ [v] := by
      rw [List.take_add_one, List.getElem?_set_self (by omega), List.take_set_of_le (Nat.le_refl _)]
      rfl
    have e2 : (cs.set o v).drop (o + 1 + r.length) = cs.drop (o + (v :: r).length) := by
      rw [List.drop_set_of_lt (by omega), List.length_cons, Nat.add_comm r.length 1, ← Nat.add_assoc]
    rw [e1, e2] at h1
    refine ⟨?_, grown_trans (grown_set w ⟨g, o, none⟩ v) h2⟩
    rw [List.append_assoc] at h1
    exact h1
theorem step_store_mid {P : Program} {ops : Array Oper} {rest : List Oper} {o : Oper} {a : Act} {w : World} {Q : Exit → Act → World → Prop} (hgd : o.guard = none) (ty : TypeId) (x y : Operand) (ho : o.op = .store ty x y) (g k : Nat) (hx : a.eval x = .pointer (some ⟨g, k, none⟩)) (t : TypeId) (old cs : List Value) (hy : a.eval y = .agg cs.toArray)
    (hr : Row w g t old) (hl : k + cs.length ≤ old.length) (hi : (P.info? ty).map (·.size) = some cs.length) (h1 : ∀ v ∈ cs, v.oneCell' = true)
    (h : ∀ w', Row w' g t (old.take k ++ (cs ++ old.drop (k + cs.length))) → w.grownBy w' (some g) → wpList P ops Q rest (a.put o.dst undef) w') : wpList P ops Q (o :: rest) a w := by
  obtain ⟨h2, h3⟩ := row_setCells cs k w old hr hl
  exact wpList_store_mid hgd ty x y ho g k cs.toArray hx hy (by have h0 := hr.is_there k cs.length hl; simpa using h0) (by simpa using hi) (all_oneCell_toArray h1) (h _ h2 h3)
/-- What Pack leaves, whatever comes in. -/
def PackGen (R : Nat → RecV) (w : World) (e : Ending) (w' : World) : Prop :=
  ∃ A n c z, e = .returned (.tuple #[.slice A n c, .int .i64 z]) ∧ Hid (Below w.heap.size w w') ∧ Hid ((z = 0 ∧ (∀ k, k < 4 → (R k).may = true) ∧ ∃ g, A = some ⟨g, 0, none⟩ ∧ n = 256 ∧ c = 256 ∧ Row w' g 5 (brr 256 (pk R)) ∧ w.heap.size ≤ g) ∨ (z = 201 ∧ A = none ∧ n = 0 ∧ c = 0 ∧ ∃ k, k < 4 ∧ (R k).may = false))
theorem pack_gen (R : Nat → RecV) (hR : ∀ k, k < 4 → (R k).Ok) (w : World) : Calls Tryd.prog 11 #[.agg (recsC R).toArray] w (PackGen R w) := by
  refine (pack_any R hR w).mono ?_
  rintro e w' (⟨hm, g, rfl, hr, hq, hb⟩ | ⟨hm, rfl, hb⟩)
  · exact ⟨_, _, _, _, rfl, hb, .inl ⟨rfl, hm, g, rfl, rfl, rfl, hr, hq⟩⟩
  · exact ⟨_, _, _, _, rfl, hb, .inr ⟨rfl, rfl, rfl, rfl, hm⟩⟩
namespace nodePlaces

/-- A node of which one record is another one. -/
def put (R : Nat → RecV) (i : Nat) (r : RecV) : Nat → RecV := fun j => if j = i then r else R j
theorem put_ok {R : Nat → RecV} {r : RecV} (hR : ∀ k, k < 4 → (R k).Ok) (hr : r.Ok) (i k : Nat) (hk : k < 4) : (put R i r k).Ok := by
  unfold put
  split
  · exact hr
  · exact hR k hk
theorem pk_put {R : Nat → RecV} {i : Nat} {r : RecV} {j : Nat} (h : j < 42 * i ∨ 42 * i + 42 ≤ j) : pk (put R i r) j = pk R j := by
  unfold pk put
  split
  · rw [if_neg (by omega)]
  · rfl
set_option maxHeartbeats 2000000 in
theorem walk (R : Nat → RecV) (hR : ∀ k, k < 4 → (R k).Ok) (z : Int) (hz : (Lit.int .u8 z).wf = true) (r : RecV) (hr : r.Ok) (w : World) : Calls Tryd.prog 8 #[.agg (recsC R).toArray, .int .u8 z, .agg r.cs.toArray] w fun e w' => e = .returned (.bool true) ∧ Below w.heap.size w w' := by
  obtain ⟨n, rfl, hn⟩ := u8_nat hz
  have i35 : (Tryd.prog.info? 26).map (·.size) = some r.cs.length := by rw [r.cs_len]; exact info_rec
  have i140 := Lib.hid (p := ∀ Q : Nat → RecV, (Tryd.prog.info? 27).map (·.size) = some (recsC Q).length) (fun Q => by rw [recsC_len]; exact info_recs)
  obtain ⟨i, hi⟩ : ∃ i, i = n % 4 := ⟨_, rfl⟩
  have hi4 : i < 4 := by omega
  have em : ((n : Int)).tmod 4 = (i : Int) := by rw [Int.tmod_eq_emod_of_nonneg (by omega)]; omega
  have e0 : (0 : Int) ≤ (i : Int) := by omega
  have e4 : (i : Int) < 4 := by omega
  have ew : IntKind.i64.wrap (i : Int) = (i : Int) := by rw [IntKind.wrap_i64]; omega
  have e42 : IntKind.i64.wrap (42 * (i : Int)) = 42 * (i : Int) := by rw [IntKind.wrap_i64]; omega
  have e84 : IntKind.i64.wrap (42 * (i : Int) + 42) = 42 * (i : Int) + 42 := by rw [IntKind.wrap_i64]; omega
  have HP := Lib.hid (fun w => pack_gen R hR w)
  have HP2 := Lib.hid (fun w => pack_gen (put R i r) (put_ok hR hr i) w)
  have hset := recsC_set R i hi4 r
  obtain ⟨C1, hC1⟩ : ∃ C1, C1 = recsC R := ⟨_, rfl⟩
  obtain ⟨C2, hC2⟩ : ∃ C2, C2 = recsC (put R i r) := ⟨_, rfl⟩
  have hset' : C1.take (i * 35) ++ (r.cs ++ C1.drop (i * 35 + 35)) = C2 := by rw [hC1, hC2]; exact hset
  have HS := Lib.hid hset'
  have l1 := Lib.hid (p := C1.length = 140) (by rw [hC1, recsC_len])
  have i1 : (Tryd.prog.info? 27).map (·.size) = some C1.length := by rw [hC1]; exact i140.out R
  have i2 : (Tryd.prog.info? 27).map (·.size) = some C2.length := by rw [hC2]; exact i140.out _
  rw [← hC1] at HP
  rw [← hC2] at HP2
  have HN := Lib.hid hn
  have HI := Lib.hid hi
  rw [← hC1]
  clear hz hn hi hset hset' hC1 hC2 hR hr
  go_enter Tryd.func8, Tryd.ntmps8
  go_wp2_with (first
    | (refine step_box rfl 3 rfl 27 _ rfl C1 rfl ?_; intro g3 w1 hr1 hg1 hb1 hs1; have R31 := Lib.hid hr1; have HB1 := Lib.hid hb1; have Q3 := Lib.hid (p := w.heap.size ≤ g3) (by rw [hg1.out]; exact Nat.le_refl _); clear hr1 hb1 hg1 hs1)
    | (refine step_box rfl 5 rfl 26 _ rfl r.cs rfl ?_; intro g5 w2 hr2 hg2 hb2 hs2
       have R32 := Lib.hid (R31.out.kept hb2)
       have R52 := Lib.hid hr2
       have HB2 := Lib.hid (HB1.out.trans (hb2.mono HB1.out.size))
       have N35 := Lib.hid (p := g3 < g5) (by rw [hg2.out]; exact R31.out.lt)
       clear hr2 hb2 hg2 hs2)
    | (go_at_call 10; refine (awake_any _).mono ?_; rintro e3 w3 ⟨rfl, hb3⟩
       have R33 := Lib.hid (R32.out.kept hb3)
       have R53 := Lib.hid (R52.out.kept hb3)
       have HB3 := Lib.hid (HB2.out.trans (hb3.mono HB2.out.size))
       clear hb3)
    | (refine step_load rfl 16 rfl 27 (.tmp 3) rfl g3 rfl C1 _ R33.out.all Tryd.underlying27 rfl i1 ?_)
    | (go_at_call_of 11 (Value.agg C1.toArray); refine (HP.out _).mono ?_; rintro e4 w4 ⟨A4, n4, c4, z4, rfl, HB4', HZ4⟩
       have R34 := Lib.hid (R33.out.kept HB4'.out)
       have R54 := Lib.hid (R53.out.kept HB4'.out)
       have HB4 := Lib.hid (HB3.out.trans (HB4'.out.mono HB3.out.size))
       have S34 := Lib.hid (p := w3.heap.size ≤ w4.heap.size) HB4'.out.size
       have L33 := Lib.hid (p := g3 < w3.heap.size) R33.out.lt
       clear HB4' HP)
    | (refine step_load rfl 24 rfl 26 (.tmp 5) rfl g5 rfl r.cs _ R54.out.all Tryd.underlying26 rfl i35 ?_)
    | (refine step_store_mid rfl 26 (.tmp 25) (.tmp 24) rfl g3 (i * 35) (by rfl) _ C1 r.cs (by rfl) R34.out (by rw [r.cs_len, l1.out]; omega) i35 (RecV.cs_one _) ?_; intro w5 hr5 hg5
       rw [r.cs_len, HS.out] at hr5
       have R35 := Lib.hid hr5
       have G5 := Lib.hid hg5
       have HB5 := Lib.hid (p := Below w.heap.size w w5) (HB4.out.grown hg5 HB4.out.size (fun q hq => by injection hq with hq; subst hq; exact Q3.out))
       clear hr5 hg5)
    | (refine step_load rfl 27 rfl 27 (.tmp 3) rfl g3 rfl C2 _ R35.out.all Tryd.underlying27 rfl i2 ?_))
  refine (HP2.out _).mono ?_
  rintro e6 w6 ⟨A6, n6, c6, z6, rfl, HB6', HZ6⟩
  have HB6 := Lib.hid (HB5.out.trans (HB6'.out.mono HB5.out.size))
  rcases HZ4.out with ⟨rfl, _, ga, rfl, rfl, rfl, hra, hqa⟩ | ⟨rfl, rfl, rfl, rfl, _⟩
  · rcases HZ6.out with ⟨rfl, _, gb, rfl, rfl, rfl, hrb, hqb⟩ | ⟨rfl, rfl, rfl, rfl, _⟩
    · have RA := Lib.hid ((hra.grown G5.out (fun e => by injection e with e; have := L33.out; omega)).kept HB6'.out)
      have RB := Lib.hid hrb
      clear HZ4 HZ6 hra hrb hqa hqb
      go_wp2
      go_loopw [12] (fun x wr => ∃ k : Nat, k ≤ 256 ∧ x = .int .i64 (k : Int) ∧ Hid (Row wr ga 5 (brr 256 (pk R))) ∧ Hid (Row wr gb 5 (brr 256 (pk (put R i r)))) ∧ Hid (Below w.heap.size w wr)) (fun x _ => 256 - (intOf x).toNat)
      case atStart => exact ⟨0, by omega, rfl, RA, RB, HB6⟩
      case round =>
        obtain ⟨k, hk, rfl, HRA, HRB, HB⟩ := hrel
        by_cases h256 : k < 256
        · have hki : (k : Int) < 256 := by omega
          have hk0 : (0 : Int) ≤ (k : Int) := by omega
          have ca : wr.cell? ⟨ga, k, none⟩ = some (B (pk R k)) := by rw [HRA.out.cell, brr_get _ h256]
          have cb : wr.cell? ⟨gb, k, none⟩ = some (B (pk (put R i r) k)) := by rw [HRB.out.cell, brr_get _ h256]
          obtain ⟨x, hx⟩ : ∃ x, x = pk R k := ⟨_, rfl⟩
          obtain ⟨y, hy⟩ : ∃ y, y = pk (put R i r) k := ⟨_, rfl⟩
          rw [← hx] at ca
          rw [← hy] at cb
          by_cases hxy : x = y
          · have hne : (bv x != bv y) = false := by rw [hxy]; simp
            clear hx hy
            go_wp2
            go_quiet (fail)
            go_wp2
            go_roundw
            case rel => exact ⟨k + 1, by omega, by go_num, Lib.hid (HRA.out.drewN _), Lib.hid (HRB.out.drewN _), Lib.hid (below_drewN HB.out _)⟩
            case measure => simp [intOf]; omega
          · have hin : ¬ (k < 42 * i ∨ 42 * i + 42 ≤ k) := fun h => hxy (by rw [hx, hy, pk_put h])
            have hne : (bv x != bv y) = true := by
              have h9 : ¬ bv x = bv y := fun e => hxy ((bv_eq x y).1 e)
              simpa using h9
            have d1 : decide ((k : Int) < 42 * (i : Int)) = false := decide_eq_false (by omega)
            have d2 : decide (42 * (i : Int) + 42 ≤ (k : Int)) = false := decide_eq_false (by omega)
            clear hx hy hxy
            go_wp2
            go_quiet (fail)
            go_wp2
            go_roundw
            case rel => exact ⟨k + 1, by omega, by go_num, Lib.hid (HRA.out.drewN _), Lib.hid (HRB.out.drewN _), Lib.hid (below_drewN HB.out _)⟩
            case measure => simp [intOf]; omega
        · obtain rfl : k = 256 := by omega
          go_wp2
          go_ret
          exact ⟨rfl, HB.out⟩
    · clear HZ4 HZ6
      go_wp2
      go_ret
      exact ⟨rfl, HB6.out⟩
  · clear HZ4 HZ6
    go_wp2
    go_ret
    exact ⟨rfl, HB6.out⟩
end nodePlaces
end Go.Proofs.YtibnmhaipogleaaDoor
