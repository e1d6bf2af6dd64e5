/- The reference's block of an inode. Conditions: those named. -/
import Derived.Test.YtfbfeplegdpemaaGreatMgFg
import Derived.Deep.RegionHeld
import Derived.Test.YtfbfeplegdpemaaGreatMgCur
import Derived.Test.YtfbfeplegdpemaaGreatMgId
set_option linter.unusedVariables false
set_option maxRecDepth 20000
namespace Go.Proofs.YtfbfeplegdpemaaGreat
open Go.RowKit

theorem OV.hol {B : Nat} {w : World} {e : TypeId} {A : Option Addr} {n c : Nat} {f : Nat → Value} (h : OV B w e A n c f) (hn : 0 < n) : HolV w A n f := h.cells hn
theorem sz_ok (k : Nat) : sz k = 1 ∨ sz k = 2 ∨ sz k = 4 ∨ sz k = 8 := by
  unfold sz
  split <;> decide
def vv (v : Nat → Int) (k : Nat) : Value := .int .u64 (v k)
theorem vv_10 (v : Nat → Int) : [Value.int .u64 (v 0), .int .u64 (v 1), .int .u64 (v 2), .int .u64 (v 3), .int .u64 (v 4), .int .u64 (v 5), .int .u64 (v 6), .int .u64 (v 7), .int .u64 (v 8), .int .u64 (v 9)] = fv 10 (vv v) := by
  simp [fv_snoc, fv_zero, vv]
theorem irpack_not (v : Nat → Int) (hw : Wf v) (h : mayB v = false) (w : World) : Calls Tryz.prog 62 #[.agg (ncs v).toArray] w fun e w' => e = .returned (.tuple #[.slice none 0 0, .int .i64 201]) ∧ Below w.heap.size w w' := by
  have i1 := Lib.hid (fun v => info_ncs v)
  have HM := Lib.hid (fun w => irmay_any v hw w)
  rw [h] at HM
  clear h hw
  go_enter Tryz.func62, Tryz.ntmps62
  go_wp2_with (first
    | (refine step_box rfl 1 rfl 44 (.tmp 0) rfl (ncs v) rfl ?_; intro g2 w2 hr2 hg2 hb2 hs2
       have R2 := Lib.hid hr2
       have HB2 := Lib.hid hb2
       clear hr2 hb2 hg2 hs2)
    | (refine step_load rfl 6 rfl 44 (.tmp 1) rfl g2 rfl (ncs v) _ R2.out.all Tryz.underlying44 rfl (i1.out _) ?_)
    | (go_at_call 88; refine (HM.out _).mono ?_; rintro e w3 ⟨rfl, hb3⟩
       have HB3 := Lib.hid (below_nxt hb3 HB2.out)
       clear hb3))
  go_ret2
  exact ⟨rfl, HB3.out⟩
theorem bs_u64 (z : Int) (w : World) : (Instr.buildSlice 117 1 #[(0, .int .u64 z)]).run Tryz.prog w = .ok (.slice (some ⟨w.heap.size, 0, none⟩) 1 1) (w.alloc (.cells [Value.int .u64 z].toArray 35)) := by kernel_rfl
section
variable {o : Oper} {a : Act} {w : World} {K : Act → World → Prop} {Q : Exit → Act → World → Prop}
theorem k_bs1 (x : Operand) (ho : o.op = .buildSlice 117 1 #[(0, x)]) (z : Int) (hx : a.eval x = .int .u64 z)
    (h : ∀ g w', Row w' g 35 [.int .u64 z] → Below w.heap.size w w' → K (a.put o.dst (.slice (some ⟨g, 0, none⟩) 1 1)) w') : Oper.wp Tryz.prog o a w K Q := by
  unfold Oper.wp execOp
  simp only [ho, Sem.run_bind, List.map_toArray, List.map_cons, List.map_nil, hx, bs_u64, Result.andThen_ok]
  exact h _ _ (Row.made w _ _) ((Below.refl _ _).alloc (Nat.le_refl _) _)
theorem k_join {P : Program} {t e : TypeId} {k : Nat} (s x : Operand) (ho : o.op = .call { callee := .builtin .append, args := #[s, x], argTypes := #[t, t] }) (R : Rec P t e k) (base : Nat) (v : Value) (n : Nat) (xs : List Value) (hs : a.eval s = v) (hown : w.ownsRow base e k v n xs)
    (A : Option Addr) (m c : Nat) (ys : List Value) (hx : a.eval x = .slice A m c) (hys : ys.length = m * k) (hA : m = 0 ∧ A = none ∨ ∃ ad, A = some ad ∧ ∀ j u, ys[j]? = some u → w.cell? (ad.add j) = some u) (h1 : ∀ u ∈ ys, u.oneCell' = true) (hb : n + m ≤ 1000001) (hbase : base ≤ w.heap.size)
    (h : ∀ v' w', w'.ownsRow base e k v' (n + m) (xs ++ ys) → w.grownBy w' v.ownBlock → K (a.put o.dst v') w') : Oper.wp P o a w K Q := by
  obtain ⟨v', w', hr, h2, h3, h4⟩ := run_join (P := P) R o.type base v n xs hown A m c ys hys hA h1 hb hbase
  unfold Oper.wp execOp
  simp only [ho, resolve, invoke, builtin, Sem.run_bind, Sem.run_pure, Result.andThen_ok, List.map_toArray, List.map_cons, List.map_nil, hs, hx, hr]
  exact h v' w' h2 h3
end
theorem row_src {w : World} {g : Nat} {t : TypeId} {cs : List Value} {m : Nat} (h : Row w g t cs) : m = 0 ∧ (some (⟨g, 0, none⟩ : Addr)) = none ∨ ∃ ad, some (⟨g, 0, none⟩ : Addr) = some ad ∧ ∀ j u, cs[j]? = some u → w.cell? (ad.add j) = some u :=
  .inr ⟨_, rfl, fun j u hu => by rw [Addr.add_lit, Nat.zero_add, h.cell]; exact hu⟩
/-- One more, of a source that lies. -/
theorem OV.more2 {W w w' : World} {B : Nat} {e : TypeId} {A : Option Addr} {n c : Nat} {f : Nat → Value} {u v' : Value} (hb : Below B W w) (hB : B ≤ w.heap.size) (hown : OV B w e A n c f) (hu : f n = u)
    (h1 : w'.ownsRow B e 1 v' (n + 1) (fv n f ++ [u])) (hg : w.grownBy w' (Value.slice A n c).ownBlock) : ∃ A' c', v' = .slice A' (n + 1) c' ∧ OV B w' e A' (n + 1) c' f ∧ Below B W w' := by
  obtain ⟨A', c', rfl⟩ := own_sl h1
  refine ⟨A', c', rfl, ?_, hb.grown hg hB (fun k hk => (hown.lt k hk).1)⟩
  unfold OV
  rw [fv_snoc, hu]
  exact h1
theorem row_ne {w : World} {B : Nat} {g : Nat} {cs : List Value} {A : Option Addr} {n c : Nat} {f : Nat → Value} (hr : Row w g 44 cs) (ho : OV B w 35 A n c f) : some g ≠ (Value.slice A n c).ownBlock := by
  intro e
  rcases ho.2 with ⟨h0, _⟩ | ⟨g', cap, cur, h1, _, hg, _⟩
  · rw [h0] at e
    simp [Value.ownBlock] at e
  · rw [h1] at e
    simp [Value.ownBlock] at e
    subst e
    unfold Row at hr
    rw [hr] at hg
    injection hg with hg
    injection hg with _ hg
    exact absurd hg (by decide)
set_option maxHeartbeats 2000000 in
theorem irpack_ok (v : Nat → Int) (h : mayB v = true) (hw : Wf v) (w : World) : Calls Tryz.prog 62 #[.agg (ncs v).toArray] w fun e w' => ∃ A c, e = .returned (.tuple #[.slice A 256 c, .int .i64 0]) ∧ Hid (w'.ownsRow w.heap.size 5 1 (.slice A 256 c) 256 (bc (blk sz v 27))) ∧ Hid (Below w.heap.size w w') := by
  have i1 := Lib.hid (fun v => info_ncs v)
  have HM := Lib.hid (fun w => irmay_any v hw w)
  rw [h] at HM
  have HF := Lib.hid (May.fits h hw)
  have HMY := Lib.hid ((mayB_iff v).1 h)
  have HV10 := Lib.hid (vv_10 v)
  clear h hw
  obtain ⟨z0, hz0⟩ : ∃ z, v 0 = z := ⟨_, rfl⟩
  have bz0 : 0 ≤ z0 ∧ z0 < 4294967296 := by have h1 := HF.out 0 (by omega); rw [hz0] at h1; have h2 : z0.toNat < 256 := h1.2; omega
  have wz0 : IntKind.u64.wrap z0 = z0 := by rw [wrap_64]; omega
  have mz0 : z0 % 18446744073709551616 = z0 := by omega
  have HZ0 := Lib.hid hz0
  rw [hz0] at HV10
  obtain ⟨z1, hz1⟩ : ∃ z, v 1 = z := ⟨_, rfl⟩
  have bz1 : 0 ≤ z1 ∧ z1 < 4294967296 := by have h1 := HF.out 1 (by omega); rw [hz1] at h1; have h2 : z1.toNat < 65536 := h1.2; omega
  have wz1 : IntKind.u64.wrap z1 = z1 := by rw [wrap_64]; omega
  have mz1 : z1 % 18446744073709551616 = z1 := by omega
  have HZ1 := Lib.hid hz1
  rw [hz1] at HV10
  obtain ⟨z2, hz2⟩ : ∃ z, v 2 = z := ⟨_, rfl⟩
  have bz2 : 0 ≤ z2 ∧ z2 < 4294967296 := by have h1 := HF.out 2 (by omega); rw [hz2] at h1; have h2 : z2.toNat < 4294967296 := h1.2; omega
  have wz2 : IntKind.u64.wrap z2 = z2 := by rw [wrap_64]; omega
  have mz2 : z2 % 18446744073709551616 = z2 := by omega
  have HZ2 := Lib.hid hz2
  rw [hz2] at HV10
  obtain ⟨z3, hz3⟩ : ∃ z, v 3 = z := ⟨_, rfl⟩
  have bz3 : 0 ≤ z3 ∧ z3 < 4294967296 := by have h1 := HF.out 3 (by omega); rw [hz3] at h1; have h2 : z3.toNat < 4294967296 := h1.2; omega
  have wz3 : IntKind.u64.wrap z3 = z3 := by rw [wrap_64]; omega
  have mz3 : z3 % 18446744073709551616 = z3 := by omega
  have HZ3 := Lib.hid hz3
  rw [hz3] at HV10
  obtain ⟨z4, hz4⟩ : ∃ z, v 4 = z := ⟨_, rfl⟩
  have bz4 : 0 ≤ z4 ∧ z4 < 4294967296 := by have h1 := HF.out 4 (by omega); rw [hz4] at h1; have h2 : z4.toNat < 65536 := h1.2; omega
  have wz4 : IntKind.u64.wrap z4 = z4 := by rw [wrap_64]; omega
  have mz4 : z4 % 18446744073709551616 = z4 := by omega
  have HZ4 := Lib.hid hz4
  rw [hz4] at HV10
  obtain ⟨z5, hz5⟩ : ∃ z, v 5 = z := ⟨_, rfl⟩
  have bz5 : 0 ≤ z5 ∧ z5 < 4294967296 := by have h1 := HF.out 5 (by omega); rw [hz5] at h1; have h2 : z5.toNat < 4294967296 := h1.2; omega
  have wz5 : IntKind.u64.wrap z5 = z5 := by rw [wrap_64]; omega
  have mz5 : z5 % 18446744073709551616 = z5 := by omega
  have HZ5 := Lib.hid hz5
  rw [hz5] at HV10
  obtain ⟨z6, hz6⟩ : ∃ z, v 6 = z := ⟨_, rfl⟩
  have HZ6 := Lib.hid hz6
  rw [hz6] at HV10
  obtain ⟨z7, hz7⟩ : ∃ z, v 7 = z := ⟨_, rfl⟩
  have bz7 : 0 ≤ z7 ∧ z7 < 4294967296 := by have h1 := HF.out 7 (by omega); rw [hz7] at h1; have h2 : z7.toNat < 4294967296 := h1.2; omega
  have wz7 : IntKind.u64.wrap z7 = z7 := by rw [wrap_64]; omega
  have mz7 : z7 % 18446744073709551616 = z7 := by omega
  have HZ7 := Lib.hid hz7
  rw [hz7] at HV10
  obtain ⟨z8, hz8⟩ : ∃ z, v 8 = z := ⟨_, rfl⟩
  have bz8 : 0 ≤ z8 ∧ z8 < 4294967296 := by have h1 := HF.out 8 (by omega); rw [hz8] at h1; have h2 : z8.toNat < 65536 := h1.2; omega
  have wz8 : IntKind.u64.wrap z8 = z8 := by rw [wrap_64]; omega
  have mz8 : z8 % 18446744073709551616 = z8 := by omega
  have HZ8 := Lib.hid hz8
  rw [hz8] at HV10
  obtain ⟨z9, hz9⟩ : ∃ z, v 9 = z := ⟨_, rfl⟩
  have bz9 : 0 ≤ z9 ∧ z9 < 4294967296 := by have h1 := HF.out 9 (by omega); rw [hz9] at h1; have h2 : z9.toNat < 4294967296 := h1.2; omega
  have wz9 : IntKind.u64.wrap z9 = z9 := by rw [wrap_64]; omega
  have mz9 : z9 % 18446744073709551616 = z9 := by omega
  have HZ9 := Lib.hid hz9
  rw [hz9] at HV10
  clear hz0 hz1 hz2 hz3 hz4 hz5 hz6 hz7 hz8 hz9 bz0 bz1 bz2 bz3 bz4 bz5 bz7 bz8 bz9
  go_enter Tryz.func62, Tryz.ntmps62
  go_wp2_with (first
    | (refine step_box rfl 1 rfl 44 (.tmp 0) rfl (ncs v) rfl ?_; intro g2 w2 hr2 hg2 hb2 hs2
       have R2 := Lib.hid hr2
       have HB2 := Lib.hid hb2
       clear hr2 hb2 hg2 hs2)
    | (refine step_load rfl 6 rfl 44 (.tmp 1) rfl g2 rfl (ncs v) _ R2.out.all Tryz.underlying44 rfl (i1.out _) ?_)
    | (go_at_call 88; refine (HM.out _).mono ?_; rintro e w3 ⟨rfl, hb3⟩
       have R3 := Lib.hid (R2.out.kept hb3)
       have HB3 := Lib.hid (below_nxt hb3 HB2.out)
       clear hb3 R2 HB2 HM
       have c0 : w3.cell? ⟨g2, 0, none⟩ = some (.int .i64 z0) := by rw [R3.out.cell, ← HZ0.out]; rfl
       have c1 : w3.cell? ⟨g2, 1, none⟩ = some (.int .i64 z1) := by rw [R3.out.cell, ← HZ1.out]; rfl
       have c2 : w3.cell? ⟨g2, 2, none⟩ = some (.int .u32 z2) := by rw [R3.out.cell, ← HZ2.out]; rfl
       have c3 : w3.cell? ⟨g2, 3, none⟩ = some (.int .u32 z3) := by rw [R3.out.cell, ← HZ3.out]; rfl
       have c4 : w3.cell? ⟨g2, 4, none⟩ = some (.int .i64 z4) := by rw [R3.out.cell, ← HZ4.out]; rfl
       have c5 : w3.cell? ⟨g2, 5, none⟩ = some (.int .i64 z5) := by rw [R3.out.cell, ← HZ5.out]; rfl
       have c6 : w3.cell? ⟨g2, 6, none⟩ = some (.int .u64 z6) := by rw [R3.out.cell, ← HZ6.out]; rfl
       have c7 : w3.cell? ⟨g2, 7, none⟩ = some (.int .u32 z7) := by rw [R3.out.cell, ← HZ7.out]; rfl
       have c8 : w3.cell? ⟨g2, 8, none⟩ = some (.int .i64 z8) := by rw [R3.out.cell, ← HZ8.out]; rfl
       have c9 : w3.cell? ⟨g2, 9, none⟩ = some (.int .u32 z9) := by rw [R3.out.cell, ← HZ9.out]; rfl))
  have HS := Lib.hid (p := OV w.heap.size (w3.alloc (.cells ([Value.int .u64 z0, .int .u64 z1, .int .u64 z2, .int .u64 z3, .int .u64 z4, .int .u64 z5, .int .u64 z6, .int .u64 z7, .int .u64 z8, .int .u64 z9]).toArray 35)) 35 (some ⟨w3.heap.size, 0, none⟩) 10 10 (vv v)) (by rw [HV10.out]; exact made_ov w3 35 10 (vv v) w.heap.size HB3.out.size (by decide))
  have HB4 := Lib.hid (p := Below w.heap.size w (w3.alloc (.cells ([Value.int .u64 z0, .int .u64 z1, .int .u64 z2, .int .u64 z3, .int .u64 z4, .int .u64 z5, .int .u64 z6, .int .u64 z7, .int .u64 z8, .int .u64 z9]).toArray 35))) (HB3.out.alloc HB3.out.size _)
  have R4 := Lib.hid (R3.out.alloc (.cells ([Value.int .u64 z0, .int .u64 z1, .int .u64 z2, .int .u64 z3, .int .u64 z4, .int .u64 z5, .int .u64 z6, .int .u64 z7, .int .u64 z8, .int .u64 z9]).toArray 35))
  clear HV10 c0 c1 c2 c3 c4 c5 c6 c7 c8 c9
  go_loopw [4, 5] (fun x y wr => ∃ (k : Nat) (A : Option Addr) (m c : Nat), Hid (k ≤ 16) ∧ y = .int .i64 (k : Int) ∧ x = .slice A m c ∧ Hid (10 + k = m) ∧ Hid (OV w.heap.size wr 35 A m c (vv v)) ∧ Hid (Row wr g2 44 (ncs v)) ∧ Hid (Below w.heap.size w wr)) (fun _ y _ => 16 - (intOf y).toNat)
  case atStart => exact ⟨0, some ⟨w3.heap.size, 0, none⟩, 10, 10, Lib.hid (by omega), rfl, rfl, Lib.hid rfl, HS, R4, HB4⟩
  case round =>
    clear HS R4 HB4 R3 HB3
    obtain ⟨k, A, m, c, HK, rfl, rfl, HMM, HO, HR, HB⟩ := hrel
    have hkw : IntKind.i64.wrap ((k : Int) + 1) = (k : Int) + 1 := by rw [IntKind.wrap_i64]; have := HK.out; omega
    by_cases hk : k < 16
    · have hki : (k : Int) < 16 := by omega
      have hk0 : (0 : Int) ≤ (k : Int) := by omega
      have HKL := Lib.hid hk
      obtain ⟨x, hx⟩ : ∃ x : Nat, v (10 + k) = (x : Int) := ⟨(v (10 + k)).toNat, by have := HMY.out.2.2.2.2.2.2.1 k hk; omega⟩
      have ck : wr.cell? ⟨g2, 10 + k, none⟩ = some (.int .i64 (x : Int)) := by rw [HR.out.cell, ncs_slot v (by omega), hx]
      have hx255 : x < 65536 := by have := HMY.out.2.2.2.2.2.2.1 k hk; omega
      have hxw : IntKind.u64.wrap (x : Int) = (x : Int) := by rw [wrap_64]; omega
      have hxw' : (x : Int) % 18446744073709551616 = (x : Int) := by omega
      have HVX := Lib.hid (p := vv v m = .int .u64 (x : Int)) (by unfold vv; rw [← HMM.out, hx])
      clear hk hx hx255
      go_wp2_with (at_builtin
                   refine wp_join rfl _ _ rfl rec_u64 w.heap.size (.slice A m c) m (fv m (vv v)) rfl (HO.out.alloc _) (some ⟨wr.heap.size, 0, none⟩) 1 1 [.int .u64 (x : Int)] rfl rfl (made_src wr [.int .u64 (x : Int)] _) (by intro u hu; simp at hu; subst hu; rfl) (by have := HMM.out; have := HKL.out; omega) (by have := HB.out.size; simp; omega) ?_
                   intro v1 w1 ho1 hg1 hat1
                   obtain ⟨A1, c1, rfl, ho2, hb2⟩ := OV.more HB.out HB.out.size HO.out HVX.out ho1 hg1
                   have HO2 := Lib.hid ho2
                   have HB2 := Lib.hid hb2
                   have HR2 := Lib.hid ((HR.out.alloc _).grown hg1 (fun e => by have := row_ne HR.out HO.out; exact this e))
                   clear ho1 hg1 hat1 ho2 hb2)
      go_roundw
      case rel => exact ⟨k + 1, A1, m + 1, c1, Lib.hid HKL.out, by go_num, rfl, Lib.hid (by have := HMM.out; omega), HO2, HR2, HB2⟩
      case measure => have := HKL.out; simp [intOf]; omega
    · obtain rfl : k = 16 := by have := HK.out; omega
      obtain rfl : m = 26 := by have := HMM.out; omega
      have hki : ¬ ((16 : Nat) : Int) < 16 := by omega
      clear hk
      obtain ⟨x, hx⟩ : ∃ x : Nat, v 26 = (x : Int) := ⟨(v 26).toNat, by have := HMY.out.2.2.2.2.2.2.2; omega⟩
      have hx255 : x < 65536 := by have := HMY.out.2.2.2.2.2.2.2; omega
      have hxw : IntKind.u64.wrap (x : Int) = (x : Int) := by rw [wrap_64]; omega
      have hxw' : (x : Int) % 18446744073709551616 = (x : Int) := by omega
      have HC : Hid (∀ W, Row W g2 44 (ncs v) → W.cell? ⟨g2, 26, none⟩ = some (.int .i64 (x : Int))) := Lib.hid (fun W h => by rw [h.cell, ← hx]; rfl)
      have HVX := Lib.hid (p := vv v 26 = .int .u64 (x : Int)) (by unfold vv; rw [hx])
      clear hx hx255
      go_wp2
      refine wp_region_held_drew (S := fun W => W.cell? ⟨g2, 26, none⟩ = some (.int .i64 (x : Int))) (by kernel_rfl) (HC.out _ HR.out.drew) (fun hHeld => ?_)
      refine wpAnyH_take (i := 1) (oi := ⟨some 52, .move (.tmp 4), _, _, _, _⟩) (v := .slice A 26 c) rfl (by kernel_rfl) (by kernel_rfl) (by kernel_rfl) (fun _ _ _ h => h) (.inl ⟨by rfl, fun w hSw => by go_simp⟩) (by assumption) ?_
      simp only [Act.put, List.setIfInBounds_toArray, List.set_cons_zero, List.set_cons_succ]
      refine wpAnyH_take (i := 2) (oi := ⟨some 53, .fieldAddr 44 (.tmp 1) 11, _, _, _, _⟩) (v := .pointer (some ⟨g2, 26, none⟩)) rfl (by kernel_rfl) (by kernel_rfl) (by kernel_rfl) (fun _ _ _ h => h) (.inl ⟨by rfl, fun w hSw => by go_simp⟩) (by assumption) ?_
      simp only [Act.put, List.setIfInBounds_toArray, List.set_cons_zero, List.set_cons_succ]
      refine wpAnyH_take (i := 3) (oi := ⟨some 54, .load 3 (.tmp 53), _, _, _, _⟩) (v := .int .i64 (x : Int)) rfl (by kernel_rfl) (by kernel_rfl) (by kernel_rfl) (fun _ _ _ h => h) (.inl ⟨by rfl, fun w hSw => by have z := hSw; go_simp⟩) (by assumption) ?_
      simp only [Act.put, List.setIfInBounds_toArray, List.set_cons_zero, List.set_cons_succ]
      refine wpAnyH_take (i := 4) (oi := ⟨some 55, .convert 3 35 (.tmp 54), _, _, _, _⟩) (v := .int .u64 (x : Int)) rfl (by kernel_rfl) (by kernel_rfl) (by kernel_rfl) (fun _ _ _ h => h) (.inl ⟨by rfl, fun w hSw => by go_simp⟩) (by assumption) ?_
      simp only [Act.put, List.setIfInBounds_toArray, List.set_cons_zero, List.set_cons_succ]
      refine wpAnyH_ready (rs := [0, 5]) (by kernel_rfl) (by simp) ?_
      refine AllReadyH.cons (o := ⟨some 51, .call ⟨.value (.func 60), #[], _⟩, _, _, _, _⟩) rfl (fun K hK => ?_) (AllReadyH.cons (o := ⟨some 56, .buildSlice 117 1 #[(0, .tmp 55)], _, _, _, _⟩) rfl (fun K hK => ?_) AllReadyH.nil)
      · go_simp
        refine (rsizes_any _).mono ?_
        rintro e w1 ⟨A1, c1, rfl, ho1, hb1⟩
        have HOS1 : Hid (OV wr.heap.size w1 3 A1 27 c1 szv) := ho1
        have HO1 := Lib.hid (OV.kept HO.out (((Below.refl _ _).drew).trans hb1.out))
        have HR1 := Lib.hid (HR.out.drew.kept hb1.out)
        have HB1 := Lib.hid (below_nxt hb1.out HB.out.drew)
        clear ho1 hb1
        refine hK.out _ _ (HC.out _ HR1.out) (fun _hH => ?_)
        clear hK K
        refine wpAnyH_ready (rs := [5]) (by kernel_rfl) (by simp) ?_
        refine AllReadyH.cons (o := ⟨some 56, .buildSlice 117 1 #[(0, .tmp 55)], _, _, _, _⟩) rfl (fun K hK => ?_) AllReadyH.nil
        refine k_bs1 (.tmp 55) rfl (x : Int) rfl ?_
        intro gs w2 hr2 hb2
        have HG2 := Lib.hid hr2
        have HOS2 : Hid (OV wr.heap.size w2 3 A1 27 c1 szv) := Lib.hid (OV.kept HOS1.out hb2)
        have HO2 := Lib.hid (OV.kept HO1.out hb2)
        have HR2 := Lib.hid (HR1.out.kept hb2)
        have HB2 := Lib.hid (below_nxt hb2 HB1.out)
        clear hr2 hb2
        refine hK.out _ _ (HC.out _ HR2.out) (fun _hH1 => ?_)
        clear hK K
        refine wpAnyH_ready (rs := [6]) (by kernel_rfl) (by simp) ?_
        refine AllReadyH.cons (o := ⟨some 57, .call ⟨.builtin .append, #[.tmp 52, .tmp 56], #[117, 117]⟩, _, _, _, _⟩) rfl (fun K hK => ?_) AllReadyH.nil
        refine k_join (.tmp 52) (.tmp 56) rfl rec_u64 w.heap.size (.slice A 26 c) 26 (fv 26 (vv v)) rfl HO2.out (some ⟨gs, 0, none⟩) 1 1 [.int .u64 (x : Int)] rfl rfl (row_src HG2.out) (by intro u hu; simp at hu; subst hu; rfl) (by omega) HB2.out.size ?_
        intro v3 w3 ho3 hg3
        obtain ⟨A3, c3, rfl, ho4, hb4⟩ := OV.more2 HB2.out HB2.out.size HO2.out HVX.out ho3 hg3
        have HOS3 : Hid (OV wr.heap.size w3 3 A1 27 c1 szv) := Lib.hid (World.ownsRow.kept HOS2.out hg3 (by
          cases hv : (Value.slice A1 27 c1).ownBlock with
          | none => exact .inl rfl
          | some q =>
            refine .inr (fun e => ?_)
            have h1 := (World.ownsRow.lt HOS2.out q hv).1
            have h2 := (World.ownsRow.lt HO.out q e.symm).2
            omega))
        have HO4 := Lib.hid ho4
        have HB4 := Lib.hid hb4
        have HR4 := Lib.hid (HR2.out.grown hg3 (row_ne HR2.out HO2.out))
        clear ho3 hg3 ho4 hb4
        refine hK.out _ _ (HC.out _ HR4.out) (fun _hH2 => ?_)
        clear hK K
        refine wpAnyH_ready (rs := [7]) (by kernel_rfl) (by simp) ?_
        refine AllReadyH.cons (o := ⟨some 58, .call ⟨.value (.func 89), #[.tmp 51, .tmp 57], _⟩, _, _, _, _⟩) rfl (fun K hK => ?_) AllReadyH.nil
        go_simp
        refine (rnumbers_any sz v 27 A1 A3 c1 c3 (by omega) (fun k _ => sz_ok k) (fun k hk => HF.out k hk) (by decide) w3 (HOS3.out.cells (by omega)) (HO4.out.cells (by omega))).mono ?_
        rintro e w5 ⟨A5, c5, rfl, ho5, hb5⟩
        have HO5 := Lib.hid (p := w5.ownsRow w.heap.size 5 1 (.slice A5 256 c5) 256 (bc (blk sz v 27))) (own_low ho5.out HB4.out.size)
        have HB5 := Lib.hid (p := Below w.heap.size w w5) (HB4.out.trans (hb5.out.mono HB4.out.size))
        have HR5 := Lib.hid (HR4.out.kept hb5.out)
        clear ho5 hb5
        refine hK.out _ _ (HC.out _ HR5.out) (fun _hH3 => ?_)
        clear hK K
        refine wpAnyH_take (i := 8) (oi := ⟨some 2, .assign (.tmp 58), _, _, _, _⟩) (v := .slice A5 256 c5) rfl (by kernel_rfl) (by kernel_rfl) (by kernel_rfl) (fun _ _ _ h => h) (.inl ⟨by rfl, fun w hSw => by go_simp⟩) (by assumption) ?_
        simp only [Act.put, List.setIfInBounds_toArray, List.set_cons_zero, List.set_cons_succ]
        refine wpAnyH_take (i := 9) (oi := ⟨some 3, .assign (.const (.int .i64 0)), _, _, _, _⟩) (v := .int .i64 0) rfl (by kernel_rfl) (by kernel_rfl) (by kernel_rfl) (fun _ _ _ h => h) (.inl ⟨by rfl, fun w hSw => by go_simp⟩) (by assumption) ?_
        simp only [Act.put, List.setIfInBounds_toArray, List.set_cons_zero, List.set_cons_succ]
        refine wpAnyH_done (by kernel_rfl) ?_ _
        go_wp2
        go_ret2
        exact ⟨A5, c5, rfl, HO5, HB5⟩
      · refine k_bs1 (.tmp 55) rfl (x : Int) rfl ?_
        intro gs w1 hr1 hb1
        have HG1 := Lib.hid hr1
        have HO1 := Lib.hid (OV.kept HO.out (((Below.refl _ _).drew).trans hb1))
        have HR1 := Lib.hid (HR.out.drew.kept hb1)
        have HB1 := Lib.hid (below_nxt hb1 HB.out.drew)
        have HS1 := Lib.hid (p := wr.heap.size ≤ w1.heap.size) hb1.size
        clear hr1 hb1
        refine hK.out _ _ (HC.out _ HR1.out) (fun _hH => ?_)
        clear hK K
        refine wpAnyH_ready (rs := [0]) (by kernel_rfl) (by simp) ?_
        refine AllReadyH.cons (o := ⟨some 51, .call ⟨.value (.func 60), #[], _⟩, _, _, _, _⟩) rfl (fun K hK => ?_) AllReadyH.nil
        go_simp
        refine (rsizes_any _).mono ?_
        rintro e w2 ⟨A1, c1, rfl, ho2, hb2⟩
        have HOS2 : Hid (OV wr.heap.size w2 3 A1 27 c1 szv) := Lib.hid (own_low ho2.out HS1.out)
        have HG2 := Lib.hid (HG1.out.kept hb2.out)
        have HO2 := Lib.hid (OV.kept HO1.out hb2.out)
        have HR2 := Lib.hid (HR1.out.kept hb2.out)
        have HB2 := Lib.hid (below_nxt hb2.out HB1.out)
        clear ho2 hb2
        refine hK.out _ _ (HC.out _ HR2.out) (fun _hH1 => ?_)
        clear hK K
        refine wpAnyH_ready (rs := [6]) (by kernel_rfl) (by simp) ?_
        refine AllReadyH.cons (o := ⟨some 57, .call ⟨.builtin .append, #[.tmp 52, .tmp 56], #[117, 117]⟩, _, _, _, _⟩) rfl (fun K hK => ?_) AllReadyH.nil
        refine k_join (.tmp 52) (.tmp 56) rfl rec_u64 w.heap.size (.slice A 26 c) 26 (fv 26 (vv v)) rfl HO2.out (some ⟨gs, 0, none⟩) 1 1 [.int .u64 (x : Int)] rfl rfl (row_src HG2.out) (by intro u hu; simp at hu; subst hu; rfl) (by omega) HB2.out.size ?_
        intro v3 w3 ho3 hg3
        obtain ⟨A3, c3, rfl, ho4, hb4⟩ := OV.more2 HB2.out HB2.out.size HO2.out HVX.out ho3 hg3
        have HOS3 : Hid (OV wr.heap.size w3 3 A1 27 c1 szv) := Lib.hid (World.ownsRow.kept HOS2.out hg3 (by
          cases hv : (Value.slice A1 27 c1).ownBlock with
          | none => exact .inl rfl
          | some q =>
            refine .inr (fun e => ?_)
            have h1 := (World.ownsRow.lt HOS2.out q hv).1
            have h2 := (World.ownsRow.lt HO.out q e.symm).2
            omega))
        have HO4 := Lib.hid ho4
        have HB4 := Lib.hid hb4
        have HR4 := Lib.hid (HR2.out.grown hg3 (row_ne HR2.out HO2.out))
        clear ho3 hg3 ho4 hb4
        refine hK.out _ _ (HC.out _ HR4.out) (fun _hH2 => ?_)
        clear hK K
        refine wpAnyH_ready (rs := [7]) (by kernel_rfl) (by simp) ?_
        refine AllReadyH.cons (o := ⟨some 58, .call ⟨.value (.func 89), #[.tmp 51, .tmp 57], _⟩, _, _, _, _⟩) rfl (fun K hK => ?_) AllReadyH.nil
        go_simp
        refine (rnumbers_any sz v 27 A1 A3 c1 c3 (by omega) (fun k _ => sz_ok k) (fun k hk => HF.out k hk) (by decide) w3 (HOS3.out.cells (by omega)) (HO4.out.cells (by omega))).mono ?_
        rintro e w5 ⟨A5, c5, rfl, ho5, hb5⟩
        have HO5 := Lib.hid (p := w5.ownsRow w.heap.size 5 1 (.slice A5 256 c5) 256 (bc (blk sz v 27))) (own_low ho5.out HB4.out.size)
        have HB5 := Lib.hid (p := Below w.heap.size w w5) (HB4.out.trans (hb5.out.mono HB4.out.size))
        have HR5 := Lib.hid (HR4.out.kept hb5.out)
        clear ho5 hb5
        refine hK.out _ _ (HC.out _ HR5.out) (fun _hH3 => ?_)
        clear hK K
        refine wpAnyH_take (i := 8) (oi := ⟨some 2, .assign (.tmp 58), _, _, _, _⟩) (v := .slice A5 256 c5) rfl (by kernel_rfl) (by kernel_rfl) (by kernel_rfl) (fun _ _ _ h => h) (.inl ⟨by rfl, fun w hSw => by go_simp⟩) (by assumption) ?_
        simp only [Act.put, List.setIfInBounds_toArray, List.set_cons_zero, List.set_cons_succ]
        refine wpAnyH_take (i := 9) (oi := ⟨some 3, .assign (.const (.int .i64 0)), _, _, _, _⟩) (v := .int .i64 0) rfl (by kernel_rfl) (by kernel_rfl) (by kernel_rfl) (fun _ _ _ h => h) (.inl ⟨by rfl, fun w hSw => by go_simp⟩) (by assumption) ?_
        simp only [Act.put, List.setIfInBounds_toArray, List.set_cons_zero, List.set_cons_succ]
        refine wpAnyH_done (by kernel_rfl) ?_ _
        go_wp2
        go_ret2
        exact ⟨A5, c5, rfl, HO5, HB5⟩
end Go.Proofs.YtfbfeplegdpemaaGreat
/- The reference's inode of a block: what its loops need. Conditions: those named. -/
set_option linter.unusedVariables false
set_option maxRecDepth 20000
namespace Go.Proofs.YtfbfeplegdpemaaGreat
open Go.RowKit

theorem ihol_sub {w : World} {g o : Nat} {l : List UInt8} (h : Hol w (some ⟨g, o, none⟩) l) (i n : Nat) : Hol w (some ⟨g, o + i, none⟩) ((l.drop i).take n) := by
  rcases h with rfl | ⟨g', o', e, hc⟩
  · exact .inl (by simp)
  · injection e with e
    injection e with e1 e2
    subst e1 e2
    refine .inr ⟨g, o + i, rfl, fun j x hx => ?_⟩
    rw [List.getElem?_take] at hx
    split at hx
    · rw [List.getElem?_drop] at hx
      have := hc (i + j) x hx
      rwa [← Nat.add_assoc] at this
    · cases hx
section
variable {P : Program} {ops : Array Oper} {o : Oper} {a : Act} {w : World} {Q : Exit → Act → World → Prop} {K : Act → World → Prop} {E : Prop}
theorem ist_alloc (hw : Region.wanted o (yielded ops a.tmps) = true) (t : TypeId) (ho : o.op = .alloc t) (cs : List Value) (hz : ∀ w : World, (zeroValue t).run P w = .ok (.agg cs.toArray) w)
    (h : ∀ g w', Row w' g t cs → Hid (g = w.heap.size) → Below w.heap.size w w' → K (a.put o.dst (.pointer (some ⟨g, 0, none⟩))) w') : if Region.wanted o (yielded ops a.tmps) = true then Oper.wp P o a w K Q else E := by
  rw [if_pos hw]
  unfold Oper.wp execOp
  simp only [ho]
  simp [Instr.alloc, hz, newVar, go_sem]
  exact h _ _ (Row.made w t cs) (show _ = _ from rfl) ((Below.refl _ _).alloc (Nat.le_refl _) _)
theorem ist_store (hw : Region.wanted o (yielded ops a.tmps) = true) (ty : TypeId) (x y : Operand) (ho : o.op = .store ty x y) (g : Nat) (hx : a.eval x = .pointer (some ⟨g, 0, none⟩)) (t : TypeId) (old cs : List Value) (hy : a.eval y = .agg cs.toArray)
    (hr : Row w g t old) (hl : old.length = cs.length) (hi : (P.info? ty).map (·.size) = some cs.length) (h1 : ∀ v ∈ cs, v.oneCell' = true)
    (h : ∀ w', Row w' g t cs → w.grownBy w' (some g) → K (a.put o.dst undef) w') : if Region.wanted o (yielded ops a.tmps) = true then Oper.wp P o a w K Q else E := by
  rw [if_pos hw]
  refine wp_store_row ty x y ho g cs.toArray hx hy t old.toArray hr (by simpa using hi) (by simpa using hl) (all_oneCell_toArray h1) ?_
  exact h _ (setRow_heap w g _ _ t _ hr) ⟨rfl, rfl, rfl, by simp, fun k hk hne => setRow_other w g k _ (fun e => hne (by rw [e]))⟩
end
theorem irun_build_op {P : Program} (w : World) {a : Act} (o : Oper) (t : TypeId) (parts : Array (Nat × Operand)) (ho : o.op = .build t parts) (vs : List (Nat × Value)) (hv : (parts.map fun (i, x) => (i, a.eval x)).toList = vs) (cells : Array Value) (hb : P.built t vs = some cells) : (execOp a.eval o).run P w = .ok (.value (.agg cells)) w := by
  subst hv
  unfold execOp
  simp only [ho, Sem.run_bind, run_build w t _ cells hb, Result.andThen_ok]
  rfl
theorem run_cut_op {P : Program} (w : World) {a : Act} (o : Oper) (t : TypeId) (x y : Operand) (ho : o.op = .slice t x (some y) none none) (g off n c l m cc : Nat) (zl : Int) (hx : a.eval x = .slice (some ⟨g, off, none⟩) n c) (hy : a.eval y = .int .i64 zl) (hzl : zl = (l : Int)) (hln : l ≤ n) (hlc : l < c) (hm : n - l = m) (hcc : c - l = cc)
    (hu : P.underlying t = some (.slice (P.elem t))) (hs : (P.info? (P.elem t)).map (·.size) = some 1) : (execOp a.eval o).run P w = .ok (.value (.slice (some ⟨g, off + l, none⟩) m cc)) w := by
  subst hzl hm hcc
  have hr : (Instr.sliceAt t (.slice (some ⟨g, off, none⟩) n c) (some (.int .i64 (l : Int))) none none).run P w = .ok (.slice (some ⟨g, off + l, none⟩) (n - l) (c - l)) w := by
    rw [run_sliceAt_slice w _ _ _ _ _ hu, run_slice_l w _ _ _ _ hu .i64 _ (by omega) (by omega), size_of hs]
    have h1 : ¬ c = l := by omega
    simp only [Result.andThen_ok, sliced, Int.toNat_natCast, Nat.mul_one, if_neg h1, Option.map_some, Addr.add_lit]
  unfold execOp
  simp only [ho, hx, hy, Option.map_some, Option.map_none, Sem.run_bind, hr, Result.andThen_ok]
  rfl
theorem irnum_cut (ga oa n c k s : Nat) (L : List UInt8) (hL : L.length = 256) (p : Nat) (hp : p + s ≤ 256) (hs : s ≤ 8) (hn : 256 - p ≤ n) (w : World) (hA : Hol w (some ⟨ga, oa, none⟩) L) :
    Calls Tryz.prog 61 #[.slice (some ⟨ga, oa + p, none⟩) n c, .int .i64 (s : Int)] w fun e w' => e = .returned (.int .u64 (num ((L.drop p).take s) : Nat)) ∧ w = w' := by
  have hl : ((L.drop p).take s).length = s := by simp; omega
  have h := rnumk_any (some ⟨ga, oa + p, none⟩) n c ((L.drop p).take s) (by omega) w (ihol_sub hA p s) (by omega)
  rwa [hl] at h
/-- A row apart from one of another type. -/
theorem OV.apart {w w' : World} {B B' : Nat} {e e' : TypeId} {A A' : Option Addr} {n c n' c' : Nat} {f f' : Nat → Value} (h : OV B w e A n c f) (h' : OV B' w e' A' n' c' f') (hne : e ≠ e') (hg : w.grownBy w' (Value.slice A' n' c').ownBlock) : OV B w' e A n c f := by
  refine World.ownsRow.kept h hg ?_
  rcases h.2 with ⟨h0, _⟩ | ⟨g, cap, cur, h1, _, hgg, _⟩
  · rw [h0]
    exact .inl rfl
  · refine .inr (fun eq => ?_)
    rw [h1] at eq
    rcases h'.2 with ⟨h0, _⟩ | ⟨g', cap', cur', h1', _, hgg', _⟩
    · rw [h0] at eq
      simp [Value.ownBlock] at eq
    · rw [h1'] at eq
      simp [Value.ownBlock] at eq
      subst eq
      rw [hgg] at hgg'
      injection hgg' with hgg'
      injection hgg' with _ ht
      exact hne ht
theorem OV.far {w w' : World} {B : Nat} {e : TypeId} {A : Option Addr} {n c : Nat} {f : Nat → Value} {g : Nat} {cs : List Value} (h : OV B w e A n c f) (hr : Row w g 44 cs) (he : e ≠ 44) (hg : w.grownBy w' (some g)) : OV B w' e A n c f := by
  refine World.ownsRow.kept h hg ?_
  rcases h.2 with ⟨h0, _⟩ | ⟨g', cap, cur, h1, _, hgg, _⟩
  · rw [h0]
    exact .inl rfl
  · refine .inr (fun eq => ?_)
    rw [h1] at eq
    simp [Value.ownBlock] at eq
    subst eq
    unfold Row at hr
    rw [hr] at hgg
    injection hgg with hgg
    injection hgg with _ ht
    exact he ht.symm
/-- The fields but the slots; then the slots up to one. -/
def us (L : List UInt8) (k j : Nat) : Int := if j < 10 + k ∨ j = 26 then rd sz L j else 0
theorem us_all (L : List UInt8) : ncs (us L 16) = ncs (rd sz L) := ncs_congr fun j hj => by unfold us; rw [if_pos (by omega)]
theorem us_step (L : List UInt8) (k : Nat) (hk : k < 16) : (ncs (us L k)).set (10 + k) (.int .i64 (rd sz L (10 + k))) = ncs (us L (k + 1)) := by
  rw [ncs_setS _ (by omega)]
  refine ncs_congr fun j _ => ?_
  unfold at1 us
  by_cases h : j = 10 + k
  · subst h
    rw [if_pos rfl, if_pos (by omega)]
  · rw [if_neg h]
    by_cases h2 : j < 10 + k ∨ j = 26
    · rw [if_pos h2, if_pos (by omega)]
    · rw [if_neg h2, if_neg (by omega)]
theorem z_built (z : Nat → Int) : Tryz.prog.built 44 [(0, .int .i64 (z 0)), (1, .int .i64 (z 1)), (2, .int .u32 (z 2)), (3, .int .u32 (z 3)), (4, .int .i64 (z 4)), (5, .int .i64 (z 5)), (6, .int .u64 (z 6)), (7, .int .u32 (z 7)), (8, .int .i64 (z 8)), (9, .int .u32 (z 9)), (11, .int .i64 (z 26))] = some (ncs (fun j => if j < 10 ∨ j = 26 then z j else 0)).toArray := by kernel_rfl
theorem us_built (L : List UInt8) (z : Nat → Int) (hz : ∀ j, j < 27 → rd sz L j = z j) : Tryz.prog.built 44 [(0, .int .i64 (z 0)), (1, .int .i64 (z 1)), (2, .int .u32 (z 2)), (3, .int .u32 (z 3)), (4, .int .i64 (z 4)), (5, .int .i64 (z 5)), (6, .int .u64 (z 6)), (7, .int .u32 (z 7)), (8, .int .i64 (z 8)), (9, .int .u32 (z 9)), (11, .int .i64 (z 26))] = some (ncs (us L 0)).toArray := by
  have e : ncs (us L 0) = ncs (fun j => if j < 10 ∨ j = 26 then z j else 0) := ncs_congr fun j hj => by
    unfold us
    by_cases h : j < 10 ∨ j = 26
    · rw [if_pos (by omega), if_pos h, hz j hj]
    · rw [if_neg (by omega), if_neg h]
  rw [e]
  exact z_built z
end Go.Proofs.YtfbfeplegdpemaaGreat
