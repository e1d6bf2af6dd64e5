/- The reference's super of a block. Conditions: those named. -/
import Derived.Test.YtfbfeplegdpemaaGreatGn
import Derived.Deep.Cut
set_option linter.unusedVariables false
set_option maxRecDepth 20000
namespace Go.Proofs.YtfbfeplegdpemaaGreat
open Go.RowKit

theorem hol_sub {w : World} {g o : Nat} {l : List UInt8} (h : Hol w (some ⟨g, o, none⟩) l) (i n : Nat) : Hol w (some ⟨g, o + i, none⟩) ((l.drop i).take n) := by
  rcases h with rfl | ⟨g', o', e, hc⟩
  · exact .inl (by simp)
  · injection e with e
    injection e with e1 e2
    subst e1 e2
    refine .inr ⟨g, o + i, rfl, fun j x hx => ?_⟩
    rw [List.getElem?_take] at hx
    split at hx
    · rw [List.getElem?_drop] at hx
      have := hc (i + j) x hx
      rwa [← Nat.add_assoc] at this
    · cases hx
section
variable {P : Program} {ops : Array Oper} {rest : List Oper} {o : Oper} {a : Act} {w : World} {Q : Exit → Act → World → Prop}
theorem step_cut1 (hgd : o.guard = none) (t : TypeId) (x y : Operand) (ho : o.op = .slice t x (some y) none none) (g off n c l m cc : Nat) (zl : Int) (hx : a.eval x = .slice (some ⟨g, off, none⟩) n c) (hy : a.eval y = .int .i64 zl) (hzl : zl = (l : Int)) (hln : l ≤ n) (hlc : l < c) (hm : n - l = m) (hcc : c - l = cc)
    (hu : P.underlying t = some (.slice (P.elem t))) (hs : (P.info? (P.elem t)).map (·.size) = some 1) (hK : wpList P ops Q rest (a.put o.dst (.slice (some ⟨g, off + l, none⟩) m cc)) w) : wpList P ops Q (o :: rest) a w := by
  subst hzl hm hcc
  refine wpList_plain hgd fun K hK' => ?_
  have hr : (Instr.sliceAt t (.slice (some ⟨g, off, none⟩) n c) (some (.int .i64 (l : Int))) none none).run P w = .ok (.slice (some ⟨g, off + l, none⟩) (n - l) (c - l)) w := by
    rw [run_sliceAt_slice w _ _ _ _ _ hu, run_slice_l w _ _ _ _ hu .i64 _ (by omega) (by omega), size_of hs]
    have h1 : ¬ c = l := by omega
    simp only [Result.andThen_ok, sliced, Int.toNat_natCast, Nat.mul_one, if_neg h1, Option.map_some, Addr.add_lit]
  unfold Oper.wp execOp
  simp only [ho, hx, hy, Option.map_some, Option.map_none, Sem.run_bind, hr, Result.andThen_ok]
  exact hK' _ _ hK
end
theorem rnum_cut (ga oa n c s : Nat) (L : List UInt8) (hL : L.length = 256) (p : Nat) (hp : p + s ≤ 256) (hs : s ≤ 8) (hn : 256 - p ≤ n) (w : World) (hA : Hol w (some ⟨ga, oa, none⟩) L) :
    Calls Tryz.prog 61 #[.slice (some ⟨ga, oa + p, none⟩) n c, .int .i64 (s : Int)] w fun e w' => e = .returned (.int .u64 (num ((L.drop p).take s) : Nat)) ∧ w = w' := by
  have hl : ((L.drop p).take s).length = s := by simp; omega
  have h := rnumk_any (some ⟨ga, oa + p, none⟩) n c ((L.drop p).take s) (by omega) w (hol_sub hA p s) (by omega)
  rwa [hl] at h
theorem pr_i2 (s : Nat) (L : List UInt8) (i c : Nat) (hi : i < 64) : (pr s L 256 i c).cs.set (257 + (i + 1)) (.int .i64 (srI L i)) = (pr s L 256 (i + 1) c).cs := by
  rw [Sup.set_i _ _ (by omega)]
  refine Sup.cs_of rfl (fun _ _ => rfl) (fun j hj => ?_) (fun _ _ => rfl)
  unfold Sup.setI pr
  dsimp only
  by_cases h : j = i + 1
  · subst h
    rw [at1_same, if_pos (by omega), Nat.add_sub_cancel]
  · rw [at1_other _ _ h]
    by_cases h2 : 1 ≤ j ∧ j < i + 1
    · rw [if_pos h2, if_pos (by omega)]
    · rw [if_neg h2, if_neg (by omega)]
theorem pr_o2 (s : Nat) (L : List UInt8) (b i : Nat) (hi : i < 64) : (pr s L 256 b i).cs.set (322 + (i + 1)) (.bool (srO L i)) = (pr s L 256 b (i + 1)).cs := by
  rw [Sup.set_o _ _ (by omega)]
  refine Sup.cs_of rfl (fun _ _ => rfl) (fun _ _ => rfl) (fun j hj => ?_)
  unfold Sup.setO pr
  dsimp only
  by_cases h : j = i + 1
  · subst h
    rw [at1_same, if_pos (by omega), Nat.add_sub_cancel]
  · rw [at1_other _ _ h]
    by_cases h2 : 1 ≤ j ∧ j < i + 1
    · rw [if_pos h2, if_pos (by omega)]
    · rw [if_neg h2, if_neg (by omega)]
theorem hol_byte_at {w : World} {ga oa : Nat} {L : List UInt8} (h : Hol w (some ⟨ga, oa, none⟩) L) (p X : Nat) (hp : p < L.length) (hX : (L.getD p 0).toNat = X) : w.cell? ⟨ga, oa + p, none⟩ = some (.int .u8 (X : Int)) := by
  obtain ⟨g, o, e, _, hc⟩ := h.at_ hp
  injection e with e
  injection e with e1 e2
  subst e1 e2
  rw [hc, ← hX]
  simp [List.getD, List.getElem?_eq_getElem hp]
/-- A super half read by the reference. -/
structure RU (w0 w : World) (g2 g4 g5 : Nat) (x : Sup) : Prop where
  r2 : Row w g2 59 sup0.cs
  r4 : Row w g4 59 sup0.cs
  r5 : Row w g5 59 x.cs
  n : g2 < g4 ∧ g4 < g5
  q : w0.heap.size ≤ g2
  b : Below w0.heap.size w0 w
theorem RU.put {w0 w : World} {g2 g4 g5 : Nat} {x y : Sup} (h : RU w0 w g2 g4 g5 x) (i : Nat) (v : Value) (hy : x.cs.set i v = y.cs) : RU w0 (w.setCell ⟨g5, i, none⟩ v) g2 g4 g5 y :=
  ⟨h.r2.far (p := ⟨g5, i, none⟩) (show g2 ≠ g5 by have := h.n; omega) _, h.r4.far (p := ⟨g5, i, none⟩) (show g4 ≠ g5 by have := h.n; omega) _, by rw [← hy]; exact h.r5.put i v, h.n, h.q, h.b.setCell (p := ⟨g5, i, none⟩) (show w0.heap.size ≤ g5 by have := h.n; have := h.q; omega) _⟩
set_option maxHeartbeats 4000000 in
theorem runpack_ok (A0 : Option Addr) (cb : Nat) (L : List UInt8) (hn : L.length = 256) (hcap : 256 ≤ cb) (hlen : cb < 9223372036854775808) (hm : (sr L).May) (hd : lst 256 (sr L).pb = L) (w : World) (hA : Hol w A0 L) :
    Calls Tryz.prog 32 #[.slice A0 256 cb] w fun e w' => e = .returned (.tuple #[.agg (sr L).cs.toArray, .int .i64 0]) ∧ Below w.heap.size w w' := by
  have HP := Lib.hid (fun w => rpack_ok (sr L) hm (srS_lt L) w)
  have HBY : Hid (∀ g8 w, Hol w (some ⟨g8, 0, none⟩) (lst 256 (sr L).pb) → Hol w A0 L → Calls Tryz.prog 63 #[.slice (some ⟨g8, 0, none⟩) 256 256, .slice A0 256 cb] w fun e w' => e = .returned (.bool (decide (lst 256 (sr L).pb = L))) ∧ Below w.heap.size w w') := Lib.hid (fun g8 w h1 h2 => by
    have h := rbytes_any (some ⟨g8, 0, none⟩) A0 256 cb _ _ w h1 h2 (by rw [lst_len]; omega) (by omega)
    rwa [lst_len, hn] at h)
  rw [decide_eq_true hd] at HBY
  clear hm hd
  have i1 := Lib.hid (fun x : Sup => info_cs x)
  have hz := Lib.hid zero_sup
  obtain ⟨ga, oa, rfl⟩ : ∃ ga oa, A0 = some ⟨ga, oa, none⟩ := by
    rcases hA with rfl | ⟨g, off, rfl, _⟩
    · simp at hn
    · exact ⟨g, off, rfl⟩
  have HA := Lib.hid hA
  have HL := Lib.hid hn
  obtain ⟨m4, hm4⟩ : ∃ m4, cb - 4 = m4 := ⟨_, rfl⟩
  have HM4 := Lib.hid (p := 4 < cb ∧ cb - 4 = m4) ⟨by omega, hm4⟩
  have HCB := Lib.hid (p := 256 ≤ cb ∧ cb < 9223372036854775808) ⟨hcap, hlen⟩
  have hup := Lib.hid (p := Tryz.prog.underlying 22 = some (.slice (Tryz.prog.elem 22))) (by kernel_rfl)
  have hsp := Lib.hid (p := (Tryz.prog.info? (Tryz.prog.elem 22)).map (·.size) = some 1) (by kernel_rfl)
  clear hA hn hcap hlen hm4
  go_enter Tryz.func32, Tryz.ntmps32
  go_wp2_with (first
    | (refine step_alloc rfl 2 rfl 59 rfl _ hz.out ?_; intro g2 w2 hr2 hg2 hb2 hs2
       have R2 := Lib.hid hr2
       have HB2 := Lib.hid hb2
       have Q2 := Lib.hid (p := w.heap.size ≤ g2) (by rw [hg2.out]; exact Nat.le_refl _)
       clear hr2 hb2 hg2 hs2)
    | (refine step_build rfl 59 #[] rfl [] ?hv _ built_sup0 ?_; case hv => simp)
    | (refine step_alloc rfl 4 rfl 59 rfl _ hz.out ?_; intro g4 w3 hr3 hg3 hb3 hs3
       have R3 := Lib.hid hr3
       have R23 := Lib.hid (R2.out.kept hb3)
       have HB3 := Lib.hid (below_nxt hb3 HB2.out)
       have N24 := Lib.hid (p := g2 < g4) (by rw [hg3.out]; exact R2.out.lt)
       clear hr3 hb3 hg3 hs3)
    | (refine step_store rfl 59 (.tmp 4) (.tmp 10) rfl g4 (by rfl) _ sup0.cs sup0.cs (by rfl) R3.out (by rw [Sup.cs_len]) (i1.out _) (Sup.cs_one _) ?_; intro w4 hr4 hg4 hs4
       have R4 := Lib.hid hr4
       have R24 := Lib.hid (R23.out.grown hg4 (fun e => by injection e with e; have := N24.out; omega))
       have HB4 := Lib.hid (p := Below w.heap.size w w4) (HB3.out.grown hg4 HB3.out.size (fun q hq => by injection hq with hq; have := N24.out; have := Q2.out; omega))
       clear hr4 hg4 hs4)
    | (refine step_alloc rfl 5 rfl 59 rfl _ hz.out ?_; intro g5 w5 hr5 hg5 hb5 hs5
       have R5 := Lib.hid hr5
       have R45 := Lib.hid (R4.out.kept hb5)
       have R25 := Lib.hid (R24.out.kept hb5)
       have HB5 := Lib.hid (below_nxt hb5 HB4.out)
       have N45 := Lib.hid (p := g4 < g5) (by rw [hg5.out]; exact R4.out.lt)
       clear hr5 hb5 hg5 hs5)
    | (refine step_store rfl 59 (.tmp 5) (.tmp 11) rfl g5 (by rfl) _ sup0.cs sup0.cs (by rfl) R5.out (by rw [Sup.cs_len]) (i1.out _) (Sup.cs_one _) ?_; intro w6 hr6 hg6 hs6
       have U6 := Lib.hid (p := RU w w6 g2 g4 g5 sup0) ⟨R25.out.grown hg6 (fun e => by injection e with e; have := N45.out; have := N24.out; omega), R45.out.grown hg6 (fun e => by injection e with e; have := N45.out; omega), hr6, ⟨N24.out, N45.out⟩, Q2.out, HB5.out.grown hg6 HB5.out.size (fun q hq => by injection hq with hq; have := N45.out; have := N24.out; have := Q2.out; omega)⟩
       clear hr6 hg6 hs6)
    | (refine step_cut1 rfl 22 (.tmp 16) _ rfl ga oa 256 cb 4 252 m4 _ rfl rfl rfl (by omega) HM4.out.1 rfl HM4.out.2 hup.out hsp.out ?_))
  refine (rnum_cut ga oa 252 m4 8 L HL.out 4 (by omega) (by omega) (by omega) _ (HA.out.below U6.out.b)).mono ?_
  rintro e w7 ⟨rfl, hw7⟩
  obtain rfl := hw7
  have c0 : w6.cell? ⟨g5, 0, none⟩ = some (.int .u64 0) := by rw [U6.out.r5.cell]; rfl
  have f0 := U6.out.r5.free 0
  have HSS := Lib.hid (p := num ((L.drop 4).take 8) = srS L) rfl
  rw [HSS.out]
  obtain ⟨s, hs⟩ : ∃ s, srS L = s := ⟨_, rfl⟩
  rw [hs]
  have HS := Lib.hid hs
  have U7 := Lib.hid (U6.out.put (y := pr s L 0 0 0) 0 (.int .u64 (s : Int)) (by rw [pr_zero L]; exact pr_s s L))
  clear hs
  go_wp2_with fail
  clear c0 f0 U6
  generalize w6.setCell ⟨g5, 0, none⟩ (.int .u64 (s : Int)) = w7 at *
  go_loopw [6] (fun x wr => ∃ i : Nat, Hid (i ≤ 256) ∧ x = .int .i64 (i : Int) ∧ Hid (RU w wr g2 g4 g5 (pr s L i 0 0))) (fun x _ => 256 - (intOf x).toNat)
  case atStart => exact ⟨0, Lib.hid (by omega), rfl, U7⟩
  case round =>
    clear U7
    obtain ⟨i, HK, rfl, U⟩ := hrel
    have hkw : IntKind.i64.wrap ((i : Int) + 1) = (i : Int) + 1 := by rw [IntKind.wrap_i64]; have := HK.out; omega
    by_cases hi : i < 256
    · have hil : (i : Int) < 256 := by omega
      have hi0 : (0 : Int) ≤ (i : Int) := by omega
      have HI := Lib.hid hi
      obtain ⟨z5, c5⟩ : ∃ z5, wr.cell? ⟨g5, 1 + i, none⟩ = some (.bool z5) := ⟨_, by rw [U.out.r5.cell, Sup.c_u _ hi]⟩
      have f5 := U.out.r5.free (1 + i)
      obtain ⟨k, hk⟩ : ∃ k, i / 8 = k := ⟨_, rfl⟩
      obtain ⟨b, hb⟩ : ∃ b, i % 8 = b := ⟨_, rfl⟩
      obtain ⟨hb8, _, _, _, _, _, _, _, _, _, hk32, h8kb⟩ := dv_facts i k b HI.out hk hb
      obtain ⟨p, hp⟩ : ∃ p, 12 + k = p := ⟨_, rfl⟩
      obtain ⟨hpw, hp0, hpn, hpl, hpe⟩ := pl_facts 12 k p (by omega) hk32 hp
      replace hpw : IntKind.i64.wrap (12 + (k : Int)) = (p : Int) := hpw
      replace hpe : 12 + (k : Int) = (p : Int) := hpe
      obtain ⟨X, hX⟩ : ∃ X, (L.getD p 0).toNat = X := ⟨_, rfl⟩
      have HCX : Hid (∀ W, Below w.heap.size w W → W.cell? ⟨ga, oa + p, none⟩ = some (.int .u8 (X : Int))) := Lib.hid (fun W hw => hol_byte_at (HA.out.below hw) p X (by rw [HL.out]; exact hpl) hX)
      obtain ⟨r, hr⟩ : ∃ r, X / 2 ^ b = r := ⟨_, rfl⟩
      obtain ⟨r2, hr2⟩ : ∃ r2, r % 2 = r2 := ⟨_, rfl⟩
      obtain ⟨z, hzz⟩ : ∃ z, srU L i = z := ⟨_, rfl⟩
      have hX256 : X < 256 := by rw [← hX]; exact (L.getD p 0).toNat_lt
      have hrX : r < 256 := Nat.lt_of_le_of_lt (by rw [← hr]; exact Nat.div_le_self _ _) hX256
      have hzr : (r2 == 1) = z := by rw [← hzz]; unfold srU; rw [hk, hb, hp]; exact ub_def (L.getD p 0) b r r2 (by rw [hX]; exact hr) hr2
      have u1 : IntKind.u64.wrap (b : Int) = (b : Int) := wu_s b (Nat.lt_trans hb8 (by decide))
      have HF := Lib.hid (p := X / 2 ^ b = r ∧ r % 2 = r2 ∧ (r2 == 1) = z ∧ r < 256 ∧ b < 8) ⟨hr, hr2, hzr, hrX, hb8⟩
      have HDV := Lib.hid (p := i < 256 ∧ i / 8 = k ∧ i % 8 = b) ⟨HI.out, hk, hb⟩
      have HZ := Lib.hid hzz
      clear hk hb hp hX hr hr2 hzz hX256 hrX hzr hb8 hk32 h8kb hpl
      have cX := HCX.out _ U.out.b
      have U2 := Lib.hid (U.out.put (y := pr s L (i + 1) 0 0) (1 + i) (.bool z) (by rw [← HZ.out]; exact pr_u s L i HI.out))
      clear hi
      go_wp2_with (first
        | (refine wp_quo8 rfl _ _ _ _ rfl rfl i k b rfl HDV.out.1 HDV.out.2.1 HDV.out.2.2 ?_)
        | (refine wp_rem8 rfl _ _ _ _ rfl rfl i k b rfl HDV.out.1 HDV.out.2.1 HDV.out.2.2 ?_)
        | (refine wp_shr8 rfl _ _ _ _ rfl X rfl _ b r rfl HF.out.2.2.2.2 HF.out.1 ?_)
        | (refine wp_rem2 rfl _ _ (.tmp 34) _ rfl r r2 rfl HF.out.2.2.2.1 rfl HF.out.2.1 ?_)
        | (refine wp_eq1 rfl _ _ (.tmp 35) _ rfl Tryz.underlying5 r2 z rfl rfl HF.out.2.2.1 ?_))
      clear hpw hp0 hpn hpe u1 c5 f5 cX hil hi0
      go_roundw
      case rel => exact ⟨i + 1, Lib.hid HI.out, by go_num, U2⟩
      case measure => have := HI.out; clear hkw; simp [intOf]; omega
    · obtain rfl : i = 256 := by have := HK.out; omega
      have hki : ¬ ((256 : Nat) : Int) < 256 := by omega
      clear hi hkw
      go_wp2
      go_loopw [7] (fun x wr => ∃ i : Nat, Hid (1 ≤ i ∧ i ≤ 65) ∧ x = .int .i64 (i : Int) ∧ Hid (RU w wr g2 g4 g5 (pr s L 256 (i - 1) (i - 1)))) (fun x _ => 65 - (intOf x).toNat)
      case atStart => exact ⟨1, Lib.hid (by omega), rfl, U⟩
      case round =>
        clear U
        obtain ⟨i, HK, rfl, U⟩ := hrel
        have hkw : IntKind.i64.wrap ((i : Int) + 1) = (i : Int) + 1 := by rw [IntKind.wrap_i64]; have := HK.out; omega
        by_cases hi : i ≤ 64
        · have hil : (i : Int) ≤ 64 := by omega
          have hi0 : (0 : Int) ≤ (i : Int) := by omega
          have hi65 : (i : Int) < 65 := by omega
          obtain ⟨a, ha⟩ : ∃ a, i - 1 = a := ⟨_, rfl⟩
          rw [ha] at U
          have HIA := Lib.hid (p := i = a + 1 ∧ i ≤ 64 ∧ i - 1 = a ∧ a < 64) (by have := HK.out; omega)
          have haw : IntKind.i64.wrap ((i : Int) - 1) = (a : Int) := by rw [IntKind.wrap_i64]; have := HIA.out; omega
          have hae : (i : Int) - 1 = (a : Int) := by have := HIA.out; omega
          have halt : a < 256 := by have := HIA.out; omega
          obtain ⟨d, hd⟩ : ∃ d, 2 * i = d := ⟨_, rfl⟩
          have hdw : IntKind.i64.wrap (2 * (i : Int)) = (d : Int) := by rw [IntKind.wrap_i64]; have := HIA.out; omega
          obtain ⟨t, ht⟩ : ∃ t, 42 + d = t := ⟨_, rfl⟩
          have htw : IntKind.i64.wrap (42 + (d : Int)) = (t : Int) := by rw [IntKind.wrap_i64]; have := HIA.out; omega
          obtain ⟨m1, hm1⟩ : ∃ m1, 256 - t = m1 := ⟨_, rfl⟩
          obtain ⟨cc, hcc⟩ : ∃ cc, cb - t = cc := ⟨_, rfl⟩
          have hta : t = 44 + 2 * a := by have := HIA.out; omega
          have HPC := Lib.hid (p := t ≤ 256 ∧ t < cb ∧ 256 - t = m1 ∧ cb - t = cc) ⟨by have := HIA.out; omega, by have := HIA.out; have := HCB.out; omega, hm1, hcc⟩
          have HPS := Lib.hid (p := t + 2 ≤ 256 ∧ 256 - t ≤ m1) ⟨by have := HIA.out; omega, by omega⟩
          obtain ⟨x, hx⟩ : ∃ x, num ((L.drop t).take 2) = x := ⟨_, rfl⟩
          have bx : x < 65536 := by rw [← hx]; exact num_take_lt _ 2
          have wx : IntKind.i64.wrap (x : Int) = (x : Int) := by rw [IntKind.wrap_i64]; omega
          have HXI := Lib.hid (p := srI L a = (x : Int)) (by unfold srI; rw [← hta, hx])
          have HNUM : Hid (Calls Tryz.prog 61 #[.slice (some ⟨ga, oa + t, none⟩) m1 cc, .int .i64 2] wr fun e w' => e = .returned (.int .u64 (x : Int)) ∧ wr = w') := Lib.hid (by
            have h := rnum_cut ga oa m1 cc 2 L HL.out t HPS.out.1 (by omega) HPS.out.2 wr (HA.out.below U.out.b)
            rwa [hx] at h)
          obtain ⟨z5, c5⟩ : ∃ z5, wr.cell? ⟨g5, 257 + i, none⟩ = some (.int .i64 z5) := ⟨_, by rw [U.out.r5.cell, Sup.c_i _ (by omega)]⟩
          have f5 := U.out.r5.free (257 + i)
          have U2 := Lib.hid (U.out.put (y := pr s L 256 (a + 1) a) (257 + i) (.int .i64 (x : Int)) (by rw [HIA.out.1, ← HXI.out]; exact pr_i2 s L a a HIA.out.2.2.2))
          clear ha hd ht hm1 hcc hta hx bx hi
          go_upto_region 14 with (first
            | (refine step_cut1 rfl 22 (.tmp 44) (.tmp 47) rfl ga oa 256 cb t m1 cc _ rfl rfl rfl HPC.out.1 HPC.out.2.1 HPC.out.2.2.1 HPC.out.2.2.2 hup.out hsp.out ?_)
            | (go_at_call 61; refine HNUM.out.mono ?_; rintro e w' ⟨rfl, hww⟩; obtain rfl := hww))
          clear wx c5 f5 hdw htw HNUM
          generalize wr.setCell ⟨g5, 257 + i, none⟩ (.int .i64 (x : Int)) = w9 at *
          obtain ⟨z6, c6⟩ : ∃ z6, w9.cell? ⟨g5, 322 + i, none⟩ = some (.bool z6) := ⟨_, by rw [U2.out.r5.cell, Sup.c_o _ (by have := HIA.out; omega)]⟩
          have f6 := U2.out.r5.free (322 + i)
          obtain ⟨k, hk⟩ : ∃ k, a / 8 = k := ⟨_, rfl⟩
          obtain ⟨b, hb⟩ : ∃ b, a % 8 = b := ⟨_, rfl⟩
          obtain ⟨hb8, _, _, _, _, _, _, _, _, _, hk32, h8kb⟩ := dv_facts a k b halt hk hb
          obtain ⟨p, hp⟩ : ∃ p, 172 + k = p := ⟨_, rfl⟩
          obtain ⟨hpw, hp0, hpn, hpl, hpe⟩ := pl_facts 172 k p (by omega) hk32 hp
          replace hpw : IntKind.i64.wrap (172 + (k : Int)) = (p : Int) := hpw
          replace hpe : 172 + (k : Int) = (p : Int) := hpe
          obtain ⟨X, hX⟩ : ∃ X, (L.getD p 0).toNat = X := ⟨_, rfl⟩
          have HCX : Hid (∀ W, Below w.heap.size w W → W.cell? ⟨ga, oa + p, none⟩ = some (.int .u8 (X : Int))) := Lib.hid (fun W hw => hol_byte_at (HA.out.below hw) p X (by rw [HL.out]; exact hpl) hX)
          obtain ⟨r, hr⟩ : ∃ r, X / 2 ^ b = r := ⟨_, rfl⟩
          obtain ⟨r2, hr2⟩ : ∃ r2, r % 2 = r2 := ⟨_, rfl⟩
          obtain ⟨z, hzz⟩ : ∃ z, srO L a = z := ⟨_, rfl⟩
          have hX256 : X < 256 := by rw [← hX]; exact (L.getD p 0).toNat_lt
          have hrX : r < 256 := Nat.lt_of_le_of_lt (by rw [← hr]; exact Nat.div_le_self _ _) hX256
          have hzr : (r2 == 1) = z := by rw [← hzz]; unfold srO; rw [hk, hb, hp]; exact ub_def (L.getD p 0) b r r2 (by rw [hX]; exact hr) hr2
          have u1 : IntKind.u64.wrap (b : Int) = (b : Int) := wu_s b (Nat.lt_trans hb8 (by decide))
          have HF := Lib.hid (p := X / 2 ^ b = r ∧ r % 2 = r2 ∧ (r2 == 1) = z ∧ r < 256 ∧ b < 8) ⟨hr, hr2, hzr, hrX, hb8⟩
          have HDV := Lib.hid (p := a < 256 ∧ a / 8 = k ∧ a % 8 = b) ⟨halt, hk, hb⟩
          have HZ := Lib.hid hzz
          clear hk hb hp hX hr hr2 hzz hX256 hrX hzr hb8 hk32 h8kb hpl
          have cX := HCX.out _ U2.out.b
          have U3 := Lib.hid (U2.out.put (y := pr s L 256 (a + 1) (a + 1)) (322 + i) (.bool z) (by rw [HIA.out.1, ← HZ.out]; exact pr_o2 s L (a + 1) a HIA.out.2.2.2))
          have HKW := Lib.hid hkw
          clear halt hkw
          go_wp2_with (first
            | (refine wp_quo8 rfl _ _ _ _ rfl rfl a k b rfl HDV.out.1 HDV.out.2.1 HDV.out.2.2 ?_)
            | (refine wp_rem8 rfl _ _ _ _ rfl rfl a k b rfl HDV.out.1 HDV.out.2.1 HDV.out.2.2 ?_)
            | (refine wp_shr8 rfl _ _ _ _ rfl X rfl _ b r rfl HF.out.2.2.2.2 HF.out.1 ?_)
            | (refine wp_rem2 rfl _ _ (.tmp 65) _ rfl r r2 rfl HF.out.2.2.2.1 rfl HF.out.2.1 ?_)
            | (refine wp_eq1 rfl _ _ (.tmp 66) _ rfl Tryz.underlying5 r2 z rfl rfl HF.out.2.2.1 ?_))
          clear hpw hp0 hpn hpe u1 c6 f6 cX haw hae hil hi0 hi65
          go_roundw
          case rel => exact ⟨i + 1, Lib.hid (by have := HIA.out; omega), (by first | go_num | exact congrArg (Value.int .i64) HKW.out), Lib.hid (by rw [show i + 1 - 1 = a + 1 by have := HIA.out; omega]; exact U3.out)⟩
          case measure => have := HIA.out; first | (simp [intOf]; omega) | (rw [HKW.out]; simp [intOf]; omega)
        · obtain rfl : i = 65 := by have := HK.out; omega
          have NF := Lib.hid (p := RU w wr g2 g4 g5 (sr L)) (by unfold sr; rw [HS.out]; exact U.out)
          have hki : ¬ ((65 : Nat) : Int) ≤ 64 := by omega
          clear hi hkw U
          go_wp2_with (first
            | (refine step_load rfl 71 rfl 59 (.tmp 5) rfl g5 rfl (sr L).cs _ NF.out.r5.all Tryz.underlying59 rfl (i1.out _) ?_)
            | (go_at_call 67; refine (HP.out _).mono ?_; rintro e8 w18 ⟨g8, rfl, hr8, hb8⟩
               have R10 := Lib.hid (NF.out.r5.kept hb8.out)
               have R48 := Lib.hid (NF.out.r4.kept hb8.out)
               have R28 := Lib.hid (NF.out.r2.kept hb8.out)
               have HB8 := Lib.hid (below_nxt hb8.out NF.out.b)
               have HH8 := Lib.hid hr8.out.hol
               clear hb8 hr8)
            | (go_at_call 63; refine (HBY.out g8 _ HH8.out (HA.out.below HB8.out)).mono ?_; rintro e9 w19 ⟨rfl, hb9⟩
               have R11 := Lib.hid (R10.out.kept hb9)
               have R49 := Lib.hid (R48.out.kept hb9)
               have R29 := Lib.hid (R28.out.kept hb9)
               have HB9 := Lib.hid (below_nxt hb9 HB8.out)
               clear hb9)
            | (refine step_load rfl 84 rfl 59 (.tmp 5) rfl g5 rfl (sr L).cs _ R11.out.all Tryz.underlying59 rfl (i1.out _) ?_)
            | (refine step_store rfl 59 (.tmp 2) (.tmp 84) rfl g2 (by rfl) _ sup0.cs (sr L).cs (by rfl) R29.out (by rw [Sup.cs_len, Sup.cs_len]) (i1.out _) (Sup.cs_one _) ?_; intro w20 hr20 hg20 hs20))
          refine bodyPost_ret (results_row_tmp rfl _ _ g2 _ _ _ _ rfl hr20 Tryz.underlying59 rfl (by simpa using i1.out (sr L))) rfl ?_
          exact ⟨rfl, HB9.out.grown hg20 HB9.out.size (fun q hq => by injection hq with hq; subst hq; exact NF.out.q)⟩
set_option maxHeartbeats 4000000 in
theorem runpack_diff (A0 : Option Addr) (cb : Nat) (L : List UInt8) (hn : L.length = 256) (hcap : 256 ≤ cb) (hlen : cb < 9223372036854775808) (hm : (sr L).May) (hd : lst 256 (sr L).pb ≠ L) (w : World) (hA : Hol w A0 L) :
    Calls Tryz.prog 32 #[.slice A0 256 cb] w fun e w' => e = .returned (.tuple #[.agg sup0.cs.toArray, .int .i64 210]) ∧ Below w.heap.size w w' := by
  have HP := Lib.hid (fun w => rpack_ok (sr L) hm (srS_lt L) w)
  have HBY : Hid (∀ g8 w, Hol w (some ⟨g8, 0, none⟩) (lst 256 (sr L).pb) → Hol w A0 L → Calls Tryz.prog 63 #[.slice (some ⟨g8, 0, none⟩) 256 256, .slice A0 256 cb] w fun e w' => e = .returned (.bool (decide (lst 256 (sr L).pb = L))) ∧ Below w.heap.size w w') := Lib.hid (fun g8 w h1 h2 => by
    have h := rbytes_any (some ⟨g8, 0, none⟩) A0 256 cb _ _ w h1 h2 (by rw [lst_len]; omega) (by omega)
    rwa [lst_len, hn] at h)
  rw [decide_eq_false hd] at HBY
  clear hm hd
  have i1 := Lib.hid (fun x : Sup => info_cs x)
  have hz := Lib.hid zero_sup
  obtain ⟨ga, oa, rfl⟩ : ∃ ga oa, A0 = some ⟨ga, oa, none⟩ := by
    rcases hA with rfl | ⟨g, off, rfl, _⟩
    · simp at hn
    · exact ⟨g, off, rfl⟩
  have HA := Lib.hid hA
  have HL := Lib.hid hn
  obtain ⟨m4, hm4⟩ : ∃ m4, cb - 4 = m4 := ⟨_, rfl⟩
  have HM4 := Lib.hid (p := 4 < cb ∧ cb - 4 = m4) ⟨by omega, hm4⟩
  have HCB := Lib.hid (p := 256 ≤ cb ∧ cb < 9223372036854775808) ⟨hcap, hlen⟩
  have hup := Lib.hid (p := Tryz.prog.underlying 22 = some (.slice (Tryz.prog.elem 22))) (by kernel_rfl)
  have hsp := Lib.hid (p := (Tryz.prog.info? (Tryz.prog.elem 22)).map (·.size) = some 1) (by kernel_rfl)
  clear hA hn hcap hlen hm4
  go_enter Tryz.func32, Tryz.ntmps32
  go_wp2_with (first
    | (refine step_alloc rfl 2 rfl 59 rfl _ hz.out ?_; intro g2 w2 hr2 hg2 hb2 hs2
       have R2 := Lib.hid hr2
       have HB2 := Lib.hid hb2
       have Q2 := Lib.hid (p := w.heap.size ≤ g2) (by rw [hg2.out]; exact Nat.le_refl _)
       clear hr2 hb2 hg2 hs2)
    | (refine step_build rfl 59 #[] rfl [] ?hv _ built_sup0 ?_; case hv => simp)
    | (refine step_alloc rfl 4 rfl 59 rfl _ hz.out ?_; intro g4 w3 hr3 hg3 hb3 hs3
       have R3 := Lib.hid hr3
       have R23 := Lib.hid (R2.out.kept hb3)
       have HB3 := Lib.hid (below_nxt hb3 HB2.out)
       have N24 := Lib.hid (p := g2 < g4) (by rw [hg3.out]; exact R2.out.lt)
       clear hr3 hb3 hg3 hs3)
    | (refine step_store rfl 59 (.tmp 4) (.tmp 10) rfl g4 (by rfl) _ sup0.cs sup0.cs (by rfl) R3.out (by rw [Sup.cs_len]) (i1.out _) (Sup.cs_one _) ?_; intro w4 hr4 hg4 hs4
       have R4 := Lib.hid hr4
       have R24 := Lib.hid (R23.out.grown hg4 (fun e => by injection e with e; have := N24.out; omega))
       have HB4 := Lib.hid (p := Below w.heap.size w w4) (HB3.out.grown hg4 HB3.out.size (fun q hq => by injection hq with hq; have := N24.out; have := Q2.out; omega))
       clear hr4 hg4 hs4)
    | (refine step_alloc rfl 5 rfl 59 rfl _ hz.out ?_; intro g5 w5 hr5 hg5 hb5 hs5
       have R5 := Lib.hid hr5
       have R45 := Lib.hid (R4.out.kept hb5)
       have R25 := Lib.hid (R24.out.kept hb5)
       have HB5 := Lib.hid (below_nxt hb5 HB4.out)
       have N45 := Lib.hid (p := g4 < g5) (by rw [hg5.out]; exact R4.out.lt)
       clear hr5 hb5 hg5 hs5)
    | (refine step_store rfl 59 (.tmp 5) (.tmp 11) rfl g5 (by rfl) _ sup0.cs sup0.cs (by rfl) R5.out (by rw [Sup.cs_len]) (i1.out _) (Sup.cs_one _) ?_; intro w6 hr6 hg6 hs6
       have U6 := Lib.hid (p := RU w w6 g2 g4 g5 sup0) ⟨R25.out.grown hg6 (fun e => by injection e with e; have := N45.out; have := N24.out; omega), R45.out.grown hg6 (fun e => by injection e with e; have := N45.out; omega), hr6, ⟨N24.out, N45.out⟩, Q2.out, HB5.out.grown hg6 HB5.out.size (fun q hq => by injection hq with hq; have := N45.out; have := N24.out; have := Q2.out; omega)⟩
       clear hr6 hg6 hs6)
    | (refine step_cut1 rfl 22 (.tmp 16) _ rfl ga oa 256 cb 4 252 m4 _ rfl rfl rfl (by omega) HM4.out.1 rfl HM4.out.2 hup.out hsp.out ?_))
  refine (rnum_cut ga oa 252 m4 8 L HL.out 4 (by omega) (by omega) (by omega) _ (HA.out.below U6.out.b)).mono ?_
  rintro e w7 ⟨rfl, hw7⟩
  obtain rfl := hw7
  have c0 : w6.cell? ⟨g5, 0, none⟩ = some (.int .u64 0) := by rw [U6.out.r5.cell]; rfl
  have f0 := U6.out.r5.free 0
  have HSS := Lib.hid (p := num ((L.drop 4).take 8) = srS L) rfl
  rw [HSS.out]
  obtain ⟨s, hs⟩ : ∃ s, srS L = s := ⟨_, rfl⟩
  rw [hs]
  have HS := Lib.hid hs
  have U7 := Lib.hid (U6.out.put (y := pr s L 0 0 0) 0 (.int .u64 (s : Int)) (by rw [pr_zero L]; exact pr_s s L))
  clear hs
  go_wp2_with fail
  clear c0 f0 U6
  generalize w6.setCell ⟨g5, 0, none⟩ (.int .u64 (s : Int)) = w7 at *
  go_loopw [6] (fun x wr => ∃ i : Nat, Hid (i ≤ 256) ∧ x = .int .i64 (i : Int) ∧ Hid (RU w wr g2 g4 g5 (pr s L i 0 0))) (fun x _ => 256 - (intOf x).toNat)
  case atStart => exact ⟨0, Lib.hid (by omega), rfl, U7⟩
  case round =>
    clear U7
    obtain ⟨i, HK, rfl, U⟩ := hrel
    have hkw : IntKind.i64.wrap ((i : Int) + 1) = (i : Int) + 1 := by rw [IntKind.wrap_i64]; have := HK.out; omega
    by_cases hi : i < 256
    · have hil : (i : Int) < 256 := by omega
      have hi0 : (0 : Int) ≤ (i : Int) := by omega
      have HI := Lib.hid hi
      obtain ⟨z5, c5⟩ : ∃ z5, wr.cell? ⟨g5, 1 + i, none⟩ = some (.bool z5) := ⟨_, by rw [U.out.r5.cell, Sup.c_u _ hi]⟩
      have f5 := U.out.r5.free (1 + i)
      obtain ⟨k, hk⟩ : ∃ k, i / 8 = k := ⟨_, rfl⟩
      obtain ⟨b, hb⟩ : ∃ b, i % 8 = b := ⟨_, rfl⟩
      obtain ⟨hb8, _, _, _, _, _, _, _, _, _, hk32, h8kb⟩ := dv_facts i k b HI.out hk hb
      obtain ⟨p, hp⟩ : ∃ p, 12 + k = p := ⟨_, rfl⟩
      obtain ⟨hpw, hp0, hpn, hpl, hpe⟩ := pl_facts 12 k p (by omega) hk32 hp
      replace hpw : IntKind.i64.wrap (12 + (k : Int)) = (p : Int) := hpw
      replace hpe : 12 + (k : Int) = (p : Int) := hpe
      obtain ⟨X, hX⟩ : ∃ X, (L.getD p 0).toNat = X := ⟨_, rfl⟩
      have HCX : Hid (∀ W, Below w.heap.size w W → W.cell? ⟨ga, oa + p, none⟩ = some (.int .u8 (X : Int))) := Lib.hid (fun W hw => hol_byte_at (HA.out.below hw) p X (by rw [HL.out]; exact hpl) hX)
      obtain ⟨r, hr⟩ : ∃ r, X / 2 ^ b = r := ⟨_, rfl⟩
      obtain ⟨r2, hr2⟩ : ∃ r2, r % 2 = r2 := ⟨_, rfl⟩
      obtain ⟨z, hzz⟩ : ∃ z, srU L i = z := ⟨_, rfl⟩
      have hX256 : X < 256 := by rw [← hX]; exact (L.getD p 0).toNat_lt
      have hrX : r < 256 := Nat.lt_of_le_of_lt (by rw [← hr]; exact Nat.div_le_self _ _) hX256
      have hzr : (r2 == 1) = z := by rw [← hzz]; unfold srU; rw [hk, hb, hp]; exact ub_def (L.getD p 0) b r r2 (by rw [hX]; exact hr) hr2
      have u1 : IntKind.u64.wrap (b : Int) = (b : Int) := wu_s b (Nat.lt_trans hb8 (by decide))
      have HF := Lib.hid (p := X / 2 ^ b = r ∧ r % 2 = r2 ∧ (r2 == 1) = z ∧ r < 256 ∧ b < 8) ⟨hr, hr2, hzr, hrX, hb8⟩
      have HDV := Lib.hid (p := i < 256 ∧ i / 8 = k ∧ i % 8 = b) ⟨HI.out, hk, hb⟩
      have HZ := Lib.hid hzz
      clear hk hb hp hX hr hr2 hzz hX256 hrX hzr hb8 hk32 h8kb hpl
      have cX := HCX.out _ U.out.b
      have U2 := Lib.hid (U.out.put (y := pr s L (i + 1) 0 0) (1 + i) (.bool z) (by rw [← HZ.out]; exact pr_u s L i HI.out))
      clear hi
      go_wp2_with (first
        | (refine wp_quo8 rfl _ _ _ _ rfl rfl i k b rfl HDV.out.1 HDV.out.2.1 HDV.out.2.2 ?_)
        | (refine wp_rem8 rfl _ _ _ _ rfl rfl i k b rfl HDV.out.1 HDV.out.2.1 HDV.out.2.2 ?_)
        | (refine wp_shr8 rfl _ _ _ _ rfl X rfl _ b r rfl HF.out.2.2.2.2 HF.out.1 ?_)
        | (refine wp_rem2 rfl _ _ (.tmp 34) _ rfl r r2 rfl HF.out.2.2.2.1 rfl HF.out.2.1 ?_)
        | (refine wp_eq1 rfl _ _ (.tmp 35) _ rfl Tryz.underlying5 r2 z rfl rfl HF.out.2.2.1 ?_))
      clear hpw hp0 hpn hpe u1 c5 f5 cX hil hi0
      go_roundw
      case rel => exact ⟨i + 1, Lib.hid HI.out, by go_num, U2⟩
      case measure => have := HI.out; clear hkw; simp [intOf]; omega
    · obtain rfl : i = 256 := by have := HK.out; omega
      have hki : ¬ ((256 : Nat) : Int) < 256 := by omega
      clear hi hkw
      go_wp2
      go_loopw [7] (fun x wr => ∃ i : Nat, Hid (1 ≤ i ∧ i ≤ 65) ∧ x = .int .i64 (i : Int) ∧ Hid (RU w wr g2 g4 g5 (pr s L 256 (i - 1) (i - 1)))) (fun x _ => 65 - (intOf x).toNat)
      case atStart => exact ⟨1, Lib.hid (by omega), rfl, U⟩
      case round =>
        clear U
        obtain ⟨i, HK, rfl, U⟩ := hrel
        have hkw : IntKind.i64.wrap ((i : Int) + 1) = (i : Int) + 1 := by rw [IntKind.wrap_i64]; have := HK.out; omega
        by_cases hi : i ≤ 64
        · have hil : (i : Int) ≤ 64 := by omega
          have hi0 : (0 : Int) ≤ (i : Int) := by omega
          have hi65 : (i : Int) < 65 := by omega
          obtain ⟨a, ha⟩ : ∃ a, i - 1 = a := ⟨_, rfl⟩
          rw [ha] at U
          have HIA := Lib.hid (p := i = a + 1 ∧ i ≤ 64 ∧ i - 1 = a ∧ a < 64) (by have := HK.out; omega)
          have haw : IntKind.i64.wrap ((i : Int) - 1) = (a : Int) := by rw [IntKind.wrap_i64]; have := HIA.out; omega
          have hae : (i : Int) - 1 = (a : Int) := by have := HIA.out; omega
          have halt : a < 256 := by have := HIA.out; omega
          obtain ⟨d, hd⟩ : ∃ d, 2 * i = d := ⟨_, rfl⟩
          have hdw : IntKind.i64.wrap (2 * (i : Int)) = (d : Int) := by rw [IntKind.wrap_i64]; have := HIA.out; omega
          obtain ⟨t, ht⟩ : ∃ t, 42 + d = t := ⟨_, rfl⟩
          have htw : IntKind.i64.wrap (42 + (d : Int)) = (t : Int) := by rw [IntKind.wrap_i64]; have := HIA.out; omega
          obtain ⟨m1, hm1⟩ : ∃ m1, 256 - t = m1 := ⟨_, rfl⟩
          obtain ⟨cc, hcc⟩ : ∃ cc, cb - t = cc := ⟨_, rfl⟩
          have hta : t = 44 + 2 * a := by have := HIA.out; omega
          have HPC := Lib.hid (p := t ≤ 256 ∧ t < cb ∧ 256 - t = m1 ∧ cb - t = cc) ⟨by have := HIA.out; omega, by have := HIA.out; have := HCB.out; omega, hm1, hcc⟩
          have HPS := Lib.hid (p := t + 2 ≤ 256 ∧ 256 - t ≤ m1) ⟨by have := HIA.out; omega, by omega⟩
          obtain ⟨x, hx⟩ : ∃ x, num ((L.drop t).take 2) = x := ⟨_, rfl⟩
          have bx : x < 65536 := by rw [← hx]; exact num_take_lt _ 2
          have wx : IntKind.i64.wrap (x : Int) = (x : Int) := by rw [IntKind.wrap_i64]; omega
          have HXI := Lib.hid (p := srI L a = (x : Int)) (by unfold srI; rw [← hta, hx])
          have HNUM : Hid (Calls Tryz.prog 61 #[.slice (some ⟨ga, oa + t, none⟩) m1 cc, .int .i64 2] wr fun e w' => e = .returned (.int .u64 (x : Int)) ∧ wr = w') := Lib.hid (by
            have h := rnum_cut ga oa m1 cc 2 L HL.out t HPS.out.1 (by omega) HPS.out.2 wr (HA.out.below U.out.b)
            rwa [hx] at h)
          obtain ⟨z5, c5⟩ : ∃ z5, wr.cell? ⟨g5, 257 + i, none⟩ = some (.int .i64 z5) := ⟨_, by rw [U.out.r5.cell, Sup.c_i _ (by omega)]⟩
          have f5 := U.out.r5.free (257 + i)
          have U2 := Lib.hid (U.out.put (y := pr s L 256 (a + 1) a) (257 + i) (.int .i64 (x : Int)) (by rw [HIA.out.1, ← HXI.out]; exact pr_i2 s L a a HIA.out.2.2.2))
          clear ha hd ht hm1 hcc hta hx bx hi
          go_upto_region 14 with (first
            | (refine step_cut1 rfl 22 (.tmp 44) (.tmp 47) rfl ga oa 256 cb t m1 cc _ rfl rfl rfl HPC.out.1 HPC.out.2.1 HPC.out.2.2.1 HPC.out.2.2.2 hup.out hsp.out ?_)
            | (go_at_call 61; refine HNUM.out.mono ?_; rintro e w' ⟨rfl, hww⟩; obtain rfl := hww))
          clear wx c5 f5 hdw htw HNUM
          generalize wr.setCell ⟨g5, 257 + i, none⟩ (.int .i64 (x : Int)) = w9 at *
          obtain ⟨z6, c6⟩ : ∃ z6, w9.cell? ⟨g5, 322 + i, none⟩ = some (.bool z6) := ⟨_, by rw [U2.out.r5.cell, Sup.c_o _ (by have := HIA.out; omega)]⟩
          have f6 := U2.out.r5.free (322 + i)
          obtain ⟨k, hk⟩ : ∃ k, a / 8 = k := ⟨_, rfl⟩
          obtain ⟨b, hb⟩ : ∃ b, a % 8 = b := ⟨_, rfl⟩
          obtain ⟨hb8, _, _, _, _, _, _, _, _, _, hk32, h8kb⟩ := dv_facts a k b halt hk hb
          obtain ⟨p, hp⟩ : ∃ p, 172 + k = p := ⟨_, rfl⟩
          obtain ⟨hpw, hp0, hpn, hpl, hpe⟩ := pl_facts 172 k p (by omega) hk32 hp
          replace hpw : IntKind.i64.wrap (172 + (k : Int)) = (p : Int) := hpw
          replace hpe : 172 + (k : Int) = (p : Int) := hpe
          obtain ⟨X, hX⟩ : ∃ X, (L.getD p 0).toNat = X := ⟨_, rfl⟩
          have HCX : Hid (∀ W, Below w.heap.size w W → W.cell? ⟨ga, oa + p, none⟩ = some (.int .u8 (X : Int))) := Lib.hid (fun W hw => hol_byte_at (HA.out.below hw) p X (by rw [HL.out]; exact hpl) hX)
          obtain ⟨r, hr⟩ : ∃ r, X / 2 ^ b = r := ⟨_, rfl⟩
          obtain ⟨r2, hr2⟩ : ∃ r2, r % 2 = r2 := ⟨_, rfl⟩
          obtain ⟨z, hzz⟩ : ∃ z, srO L a = z := ⟨_, rfl⟩
          have hX256 : X < 256 := by rw [← hX]; exact (L.getD p 0).toNat_lt
          have hrX : r < 256 := Nat.lt_of_le_of_lt (by rw [← hr]; exact Nat.div_le_self _ _) hX256
          have hzr : (r2 == 1) = z := by rw [← hzz]; unfold srO; rw [hk, hb, hp]; exact ub_def (L.getD p 0) b r r2 (by rw [hX]; exact hr) hr2
          have u1 : IntKind.u64.wrap (b : Int) = (b : Int) := wu_s b (Nat.lt_trans hb8 (by decide))
          have HF := Lib.hid (p := X / 2 ^ b = r ∧ r % 2 = r2 ∧ (r2 == 1) = z ∧ r < 256 ∧ b < 8) ⟨hr, hr2, hzr, hrX, hb8⟩
          have HDV := Lib.hid (p := a < 256 ∧ a / 8 = k ∧ a % 8 = b) ⟨halt, hk, hb⟩
          have HZ := Lib.hid hzz
          clear hk hb hp hX hr hr2 hzz hX256 hrX hzr hb8 hk32 h8kb hpl
          have cX := HCX.out _ U2.out.b
          have U3 := Lib.hid (U2.out.put (y := pr s L 256 (a + 1) (a + 1)) (322 + i) (.bool z) (by rw [HIA.out.1, ← HZ.out]; exact pr_o2 s L (a + 1) a HIA.out.2.2.2))
          have HKW := Lib.hid hkw
          clear halt hkw
          go_wp2_with (first
            | (refine wp_quo8 rfl _ _ _ _ rfl rfl a k b rfl HDV.out.1 HDV.out.2.1 HDV.out.2.2 ?_)
            | (refine wp_rem8 rfl _ _ _ _ rfl rfl a k b rfl HDV.out.1 HDV.out.2.1 HDV.out.2.2 ?_)
            | (refine wp_shr8 rfl _ _ _ _ rfl X rfl _ b r rfl HF.out.2.2.2.2 HF.out.1 ?_)
            | (refine wp_rem2 rfl _ _ (.tmp 65) _ rfl r r2 rfl HF.out.2.2.2.1 rfl HF.out.2.1 ?_)
            | (refine wp_eq1 rfl _ _ (.tmp 66) _ rfl Tryz.underlying5 r2 z rfl rfl HF.out.2.2.1 ?_))
          clear hpw hp0 hpn hpe u1 c6 f6 cX haw hae hil hi0 hi65
          go_roundw
          case rel => exact ⟨i + 1, Lib.hid (by have := HIA.out; omega), (by first | go_num | exact congrArg (Value.int .i64) HKW.out), Lib.hid (by rw [show i + 1 - 1 = a + 1 by have := HIA.out; omega]; exact U3.out)⟩
          case measure => have := HIA.out; first | (simp [intOf]; omega) | (rw [HKW.out]; simp [intOf]; omega)
        · obtain rfl : i = 65 := by have := HK.out; omega
          have NF := Lib.hid (p := RU w wr g2 g4 g5 (sr L)) (by unfold sr; rw [HS.out]; exact U.out)
          have hki : ¬ ((65 : Nat) : Int) ≤ 64 := by omega
          clear hi hkw U
          go_wp2_with (first
            | (refine step_load rfl 71 rfl 59 (.tmp 5) rfl g5 rfl (sr L).cs _ NF.out.r5.all Tryz.underlying59 rfl (i1.out _) ?_)
            | (go_at_call 67; refine (HP.out _).mono ?_; rintro e8 w18 ⟨g8, rfl, hr8, hb8⟩
               have R10 := Lib.hid (NF.out.r5.kept hb8.out)
               have R48 := Lib.hid (NF.out.r4.kept hb8.out)
               have R28 := Lib.hid (NF.out.r2.kept hb8.out)
               have HB8 := Lib.hid (below_nxt hb8.out NF.out.b)
               have HH8 := Lib.hid hr8.out.hol
               clear hb8 hr8)
            | (go_at_call 63; refine (HBY.out g8 _ HH8.out (HA.out.below HB8.out)).mono ?_; rintro e9 w19 ⟨rfl, hb9⟩
               have R11 := Lib.hid (R10.out.kept hb9)
               have R49 := Lib.hid (R48.out.kept hb9)
               have R29 := Lib.hid (R28.out.kept hb9)
               have HB9 := Lib.hid (below_nxt hb9 HB8.out)
               clear hb9)
            | (refine step_load rfl 83 rfl 59 (.tmp 4) rfl g4 rfl sup0.cs _ R49.out.all Tryz.underlying59 rfl (i1.out _) ?_)
            | (refine step_store rfl 59 (.tmp 2) (.tmp 83) rfl g2 (by rfl) _ sup0.cs sup0.cs (by rfl) R29.out (by rw [Sup.cs_len]) (i1.out _) (Sup.cs_one _) ?_; intro w20 hr20 hg20 hs20))
          refine bodyPost_ret (results_row_tmp rfl _ _ g2 _ _ _ _ rfl hr20 Tryz.underlying59 rfl (by simpa using i1.out sup0)) rfl ?_
          exact ⟨rfl, HB9.out.grown hg20 HB9.out.size (fun q hq => by injection hq with hq; subst hq; exact NF.out.q)⟩
set_option maxHeartbeats 4000000 in
theorem runpack_may (A0 : Option Addr) (cb : Nat) (L : List UInt8) (hn : L.length = 256) (hcap : 256 ≤ cb) (hlen : cb < 9223372036854775808) (hm : ¬ (sr L).May) (w : World) (hA : Hol w A0 L) :
    Calls Tryz.prog 32 #[.slice A0 256 cb] w fun e w' => e = .returned (.tuple #[.agg sup0.cs.toArray, .int .i64 210]) ∧ Below w.heap.size w w' := by
  have HP := Lib.hid (fun w => rpack_not (sr L) hm w)
  clear hm
  have i1 := Lib.hid (fun x : Sup => info_cs x)
  have hz := Lib.hid zero_sup
  obtain ⟨ga, oa, rfl⟩ : ∃ ga oa, A0 = some ⟨ga, oa, none⟩ := by
    rcases hA with rfl | ⟨g, off, rfl, _⟩
    · simp at hn
    · exact ⟨g, off, rfl⟩
  have HA := Lib.hid hA
  have HL := Lib.hid hn
  obtain ⟨m4, hm4⟩ : ∃ m4, cb - 4 = m4 := ⟨_, rfl⟩
  have HM4 := Lib.hid (p := 4 < cb ∧ cb - 4 = m4) ⟨by omega, hm4⟩
  have HCB := Lib.hid (p := 256 ≤ cb ∧ cb < 9223372036854775808) ⟨hcap, hlen⟩
  have hup := Lib.hid (p := Tryz.prog.underlying 22 = some (.slice (Tryz.prog.elem 22))) (by kernel_rfl)
  have hsp := Lib.hid (p := (Tryz.prog.info? (Tryz.prog.elem 22)).map (·.size) = some 1) (by kernel_rfl)
  clear hA hn hcap hlen hm4
  go_enter Tryz.func32, Tryz.ntmps32
  go_wp2_with (first
    | (refine step_alloc rfl 2 rfl 59 rfl _ hz.out ?_; intro g2 w2 hr2 hg2 hb2 hs2
       have R2 := Lib.hid hr2
       have HB2 := Lib.hid hb2
       have Q2 := Lib.hid (p := w.heap.size ≤ g2) (by rw [hg2.out]; exact Nat.le_refl _)
       clear hr2 hb2 hg2 hs2)
    | (refine step_build rfl 59 #[] rfl [] ?hv _ built_sup0 ?_; case hv => simp)
    | (refine step_alloc rfl 4 rfl 59 rfl _ hz.out ?_; intro g4 w3 hr3 hg3 hb3 hs3
       have R3 := Lib.hid hr3
       have R23 := Lib.hid (R2.out.kept hb3)
       have HB3 := Lib.hid (below_nxt hb3 HB2.out)
       have N24 := Lib.hid (p := g2 < g4) (by rw [hg3.out]; exact R2.out.lt)
       clear hr3 hb3 hg3 hs3)
    | (refine step_store rfl 59 (.tmp 4) (.tmp 10) rfl g4 (by rfl) _ sup0.cs sup0.cs (by rfl) R3.out (by rw [Sup.cs_len]) (i1.out _) (Sup.cs_one _) ?_; intro w4 hr4 hg4 hs4
       have R4 := Lib.hid hr4
       have R24 := Lib.hid (R23.out.grown hg4 (fun e => by injection e with e; have := N24.out; omega))
       have HB4 := Lib.hid (p := Below w.heap.size w w4) (HB3.out.grown hg4 HB3.out.size (fun q hq => by injection hq with hq; have := N24.out; have := Q2.out; omega))
       clear hr4 hg4 hs4)
    | (refine step_alloc rfl 5 rfl 59 rfl _ hz.out ?_; intro g5 w5 hr5 hg5 hb5 hs5
       have R5 := Lib.hid hr5
       have R45 := Lib.hid (R4.out.kept hb5)
       have R25 := Lib.hid (R24.out.kept hb5)
       have HB5 := Lib.hid (below_nxt hb5 HB4.out)
       have N45 := Lib.hid (p := g4 < g5) (by rw [hg5.out]; exact R4.out.lt)
       clear hr5 hb5 hg5 hs5)
    | (refine step_store rfl 59 (.tmp 5) (.tmp 11) rfl g5 (by rfl) _ sup0.cs sup0.cs (by rfl) R5.out (by rw [Sup.cs_len]) (i1.out _) (Sup.cs_one _) ?_; intro w6 hr6 hg6 hs6
       have U6 := Lib.hid (p := RU w w6 g2 g4 g5 sup0) ⟨R25.out.grown hg6 (fun e => by injection e with e; have := N45.out; have := N24.out; omega), R45.out.grown hg6 (fun e => by injection e with e; have := N45.out; omega), hr6, ⟨N24.out, N45.out⟩, Q2.out, HB5.out.grown hg6 HB5.out.size (fun q hq => by injection hq with hq; have := N45.out; have := N24.out; have := Q2.out; omega)⟩
       clear hr6 hg6 hs6)
    | (refine step_cut1 rfl 22 (.tmp 16) _ rfl ga oa 256 cb 4 252 m4 _ rfl rfl rfl (by omega) HM4.out.1 rfl HM4.out.2 hup.out hsp.out ?_))
  refine (rnum_cut ga oa 252 m4 8 L HL.out 4 (by omega) (by omega) (by omega) _ (HA.out.below U6.out.b)).mono ?_
  rintro e w7 ⟨rfl, hw7⟩
  obtain rfl := hw7
  have c0 : w6.cell? ⟨g5, 0, none⟩ = some (.int .u64 0) := by rw [U6.out.r5.cell]; rfl
  have f0 := U6.out.r5.free 0
  have HSS := Lib.hid (p := num ((L.drop 4).take 8) = srS L) rfl
  rw [HSS.out]
  obtain ⟨s, hs⟩ : ∃ s, srS L = s := ⟨_, rfl⟩
  rw [hs]
  have HS := Lib.hid hs
  have U7 := Lib.hid (U6.out.put (y := pr s L 0 0 0) 0 (.int .u64 (s : Int)) (by rw [pr_zero L]; exact pr_s s L))
  clear hs
  go_wp2_with fail
  clear c0 f0 U6
  generalize w6.setCell ⟨g5, 0, none⟩ (.int .u64 (s : Int)) = w7 at *
  go_loopw [6] (fun x wr => ∃ i : Nat, Hid (i ≤ 256) ∧ x = .int .i64 (i : Int) ∧ Hid (RU w wr g2 g4 g5 (pr s L i 0 0))) (fun x _ => 256 - (intOf x).toNat)
  case atStart => exact ⟨0, Lib.hid (by omega), rfl, U7⟩
  case round =>
    clear U7
    obtain ⟨i, HK, rfl, U⟩ := hrel
    have hkw : IntKind.i64.wrap ((i : Int) + 1) = (i : Int) + 1 := by rw [IntKind.wrap_i64]; have := HK.out; omega
    by_cases hi : i < 256
    · have hil : (i : Int) < 256 := by omega
      have hi0 : (0 : Int) ≤ (i : Int) := by omega
      have HI := Lib.hid hi
      obtain ⟨z5, c5⟩ : ∃ z5, wr.cell? ⟨g5, 1 + i, none⟩ = some (.bool z5) := ⟨_, by rw [U.out.r5.cell, Sup.c_u _ hi]⟩
      have f5 := U.out.r5.free (1 + i)
      obtain ⟨k, hk⟩ : ∃ k, i / 8 = k := ⟨_, rfl⟩
      obtain ⟨b, hb⟩ : ∃ b, i % 8 = b := ⟨_, rfl⟩
      obtain ⟨hb8, _, _, _, _, _, _, _, _, _, hk32, h8kb⟩ := dv_facts i k b HI.out hk hb
      obtain ⟨p, hp⟩ : ∃ p, 12 + k = p := ⟨_, rfl⟩
      obtain ⟨hpw, hp0, hpn, hpl, hpe⟩ := pl_facts 12 k p (by omega) hk32 hp
      replace hpw : IntKind.i64.wrap (12 + (k : Int)) = (p : Int) := hpw
      replace hpe : 12 + (k : Int) = (p : Int) := hpe
      obtain ⟨X, hX⟩ : ∃ X, (L.getD p 0).toNat = X := ⟨_, rfl⟩
      have HCX : Hid (∀ W, Below w.heap.size w W → W.cell? ⟨ga, oa + p, none⟩ = some (.int .u8 (X : Int))) := Lib.hid (fun W hw => hol_byte_at (HA.out.below hw) p X (by rw [HL.out]; exact hpl) hX)
      obtain ⟨r, hr⟩ : ∃ r, X / 2 ^ b = r := ⟨_, rfl⟩
      obtain ⟨r2, hr2⟩ : ∃ r2, r % 2 = r2 := ⟨_, rfl⟩
      obtain ⟨z, hzz⟩ : ∃ z, srU L i = z := ⟨_, rfl⟩
      have hX256 : X < 256 := by rw [← hX]; exact (L.getD p 0).toNat_lt
      have hrX : r < 256 := Nat.lt_of_le_of_lt (by rw [← hr]; exact Nat.div_le_self _ _) hX256
      have hzr : (r2 == 1) = z := by rw [← hzz]; unfold srU; rw [hk, hb, hp]; exact ub_def (L.getD p 0) b r r2 (by rw [hX]; exact hr) hr2
      have u1 : IntKind.u64.wrap (b : Int) = (b : Int) := wu_s b (Nat.lt_trans hb8 (by decide))
      have HF := Lib.hid (p := X / 2 ^ b = r ∧ r % 2 = r2 ∧ (r2 == 1) = z ∧ r < 256 ∧ b < 8) ⟨hr, hr2, hzr, hrX, hb8⟩
      have HDV := Lib.hid (p := i < 256 ∧ i / 8 = k ∧ i % 8 = b) ⟨HI.out, hk, hb⟩
      have HZ := Lib.hid hzz
      clear hk hb hp hX hr hr2 hzz hX256 hrX hzr hb8 hk32 h8kb hpl
      have cX := HCX.out _ U.out.b
      have U2 := Lib.hid (U.out.put (y := pr s L (i + 1) 0 0) (1 + i) (.bool z) (by rw [← HZ.out]; exact pr_u s L i HI.out))
      clear hi
      go_wp2_with (first
        | (refine wp_quo8 rfl _ _ _ _ rfl rfl i k b rfl HDV.out.1 HDV.out.2.1 HDV.out.2.2 ?_)
        | (refine wp_rem8 rfl _ _ _ _ rfl rfl i k b rfl HDV.out.1 HDV.out.2.1 HDV.out.2.2 ?_)
        | (refine wp_shr8 rfl _ _ _ _ rfl X rfl _ b r rfl HF.out.2.2.2.2 HF.out.1 ?_)
        | (refine wp_rem2 rfl _ _ (.tmp 34) _ rfl r r2 rfl HF.out.2.2.2.1 rfl HF.out.2.1 ?_)
        | (refine wp_eq1 rfl _ _ (.tmp 35) _ rfl Tryz.underlying5 r2 z rfl rfl HF.out.2.2.1 ?_))
      clear hpw hp0 hpn hpe u1 c5 f5 cX hil hi0
      go_roundw
      case rel => exact ⟨i + 1, Lib.hid HI.out, by go_num, U2⟩
      case measure => have := HI.out; clear hkw; simp [intOf]; omega
    · obtain rfl : i = 256 := by have := HK.out; omega
      have hki : ¬ ((256 : Nat) : Int) < 256 := by omega
      clear hi hkw
      go_wp2
      go_loopw [7] (fun x wr => ∃ i : Nat, Hid (1 ≤ i ∧ i ≤ 65) ∧ x = .int .i64 (i : Int) ∧ Hid (RU w wr g2 g4 g5 (pr s L 256 (i - 1) (i - 1)))) (fun x _ => 65 - (intOf x).toNat)
      case atStart => exact ⟨1, Lib.hid (by omega), rfl, U⟩
      case round =>
        clear U
        obtain ⟨i, HK, rfl, U⟩ := hrel
        have hkw : IntKind.i64.wrap ((i : Int) + 1) = (i : Int) + 1 := by rw [IntKind.wrap_i64]; have := HK.out; omega
        by_cases hi : i ≤ 64
        · have hil : (i : Int) ≤ 64 := by omega
          have hi0 : (0 : Int) ≤ (i : Int) := by omega
          have hi65 : (i : Int) < 65 := by omega
          obtain ⟨a, ha⟩ : ∃ a, i - 1 = a := ⟨_, rfl⟩
          rw [ha] at U
          have HIA := Lib.hid (p := i = a + 1 ∧ i ≤ 64 ∧ i - 1 = a ∧ a < 64) (by have := HK.out; omega)
          have haw : IntKind.i64.wrap ((i : Int) - 1) = (a : Int) := by rw [IntKind.wrap_i64]; have := HIA.out; omega
          have hae : (i : Int) - 1 = (a : Int) := by have := HIA.out; omega
          have halt : a < 256 := by have := HIA.out; omega
          obtain ⟨d, hd⟩ : ∃ d, 2 * i = d := ⟨_, rfl⟩
          have hdw : IntKind.i64.wrap (2 * (i : Int)) = (d : Int) := by rw [IntKind.wrap_i64]; have := HIA.out; omega
          obtain ⟨t, ht⟩ : ∃ t, 42 + d = t := ⟨_, rfl⟩
          have htw : IntKind.i64.wrap (42 + (d : Int)) = (t : Int) := by rw [IntKind.wrap_i64]; have := HIA.out; omega
          obtain ⟨m1, hm1⟩ : ∃ m1, 256 - t = m1 := ⟨_, rfl⟩
          obtain ⟨cc, hcc⟩ : ∃ cc, cb - t = cc := ⟨_, rfl⟩
          have hta : t = 44 + 2 * a := by have := HIA.out; omega
          have HPC := Lib.hid (p := t ≤ 256 ∧ t < cb ∧ 256 - t = m1 ∧ cb - t = cc) ⟨by have := HIA.out; omega, by have := HIA.out; have := HCB.out; omega, hm1, hcc⟩
          have HPS := Lib.hid (p := t + 2 ≤ 256 ∧ 256 - t ≤ m1) ⟨by have := HIA.out; omega, by omega⟩
          obtain ⟨x, hx⟩ : ∃ x, num ((L.drop t).take 2) = x := ⟨_, rfl⟩
          have bx : x < 65536 := by rw [← hx]; exact num_take_lt _ 2
          have wx : IntKind.i64.wrap (x : Int) = (x : Int) := by rw [IntKind.wrap_i64]; omega
          have HXI := Lib.hid (p := srI L a = (x : Int)) (by unfold srI; rw [← hta, hx])
          have HNUM : Hid (Calls Tryz.prog 61 #[.slice (some ⟨ga, oa + t, none⟩) m1 cc, .int .i64 2] wr fun e w' => e = .returned (.int .u64 (x : Int)) ∧ wr = w') := Lib.hid (by
            have h := rnum_cut ga oa m1 cc 2 L HL.out t HPS.out.1 (by omega) HPS.out.2 wr (HA.out.below U.out.b)
            rwa [hx] at h)
          obtain ⟨z5, c5⟩ : ∃ z5, wr.cell? ⟨g5, 257 + i, none⟩ = some (.int .i64 z5) := ⟨_, by rw [U.out.r5.cell, Sup.c_i _ (by omega)]⟩
          have f5 := U.out.r5.free (257 + i)
          have U2 := Lib.hid (U.out.put (y := pr s L 256 (a + 1) a) (257 + i) (.int .i64 (x : Int)) (by rw [HIA.out.1, ← HXI.out]; exact pr_i2 s L a a HIA.out.2.2.2))
          clear ha hd ht hm1 hcc hta hx bx hi
          go_upto_region 14 with (first
            | (refine step_cut1 rfl 22 (.tmp 44) (.tmp 47) rfl ga oa 256 cb t m1 cc _ rfl rfl rfl HPC.out.1 HPC.out.2.1 HPC.out.2.2.1 HPC.out.2.2.2 hup.out hsp.out ?_)
            | (go_at_call 61; refine HNUM.out.mono ?_; rintro e w' ⟨rfl, hww⟩; obtain rfl := hww))
          clear wx c5 f5 hdw htw HNUM
          generalize wr.setCell ⟨g5, 257 + i, none⟩ (.int .i64 (x : Int)) = w9 at *
          obtain ⟨z6, c6⟩ : ∃ z6, w9.cell? ⟨g5, 322 + i, none⟩ = some (.bool z6) := ⟨_, by rw [U2.out.r5.cell, Sup.c_o _ (by have := HIA.out; omega)]⟩
          have f6 := U2.out.r5.free (322 + i)
          obtain ⟨k, hk⟩ : ∃ k, a / 8 = k := ⟨_, rfl⟩
          obtain ⟨b, hb⟩ : ∃ b, a % 8 = b := ⟨_, rfl⟩
          obtain ⟨hb8, _, _, _, _, _, _, _, _, _, hk32, h8kb⟩ := dv_facts a k b halt hk hb
          obtain ⟨p, hp⟩ : ∃ p, 172 + k = p := ⟨_, rfl⟩
          obtain ⟨hpw, hp0, hpn, hpl, hpe⟩ := pl_facts 172 k p (by omega) hk32 hp
          replace hpw : IntKind.i64.wrap (172 + (k : Int)) = (p : Int) := hpw
          replace hpe : 172 + (k : Int) = (p : Int) := hpe
          obtain ⟨X, hX⟩ : ∃ X, (L.getD p 0).toNat = X := ⟨_, rfl⟩
          have HCX : Hid (∀ W, Below w.heap.size w W → W.cell? ⟨ga, oa + p, none⟩ = some (.int .u8 (X : Int))) := Lib.hid (fun W hw => hol_byte_at (HA.out.below hw) p X (by rw [HL.out]; exact hpl) hX)
          obtain ⟨r, hr⟩ : ∃ r, X / 2 ^ b = r := ⟨_, rfl⟩
          obtain ⟨r2, hr2⟩ : ∃ r2, r % 2 = r2 := ⟨_, rfl⟩
          obtain ⟨z, hzz⟩ : ∃ z, srO L a = z := ⟨_, rfl⟩
          have hX256 : X < 256 := by rw [← hX]; exact (L.getD p 0).toNat_lt
          have hrX : r < 256 := Nat.lt_of_le_of_lt (by rw [← hr]; exact Nat.div_le_self _ _) hX256
          have hzr : (r2 == 1) = z := by rw [← hzz]; unfold srO; rw [hk, hb, hp]; exact ub_def (L.getD p 0) b r r2 (by rw [hX]; exact hr) hr2
          have u1 : IntKind.u64.wrap (b : Int) = (b : Int) := wu_s b (Nat.lt_trans hb8 (by decide))
          have HF := Lib.hid (p := X / 2 ^ b = r ∧ r % 2 = r2 ∧ (r2 == 1) = z ∧ r < 256 ∧ b < 8) ⟨hr, hr2, hzr, hrX, hb8⟩
          have HDV := Lib.hid (p := a < 256 ∧ a / 8 = k ∧ a % 8 = b) ⟨halt, hk, hb⟩
          have HZ := Lib.hid hzz
          clear hk hb hp hX hr hr2 hzz hX256 hrX hzr hb8 hk32 h8kb hpl
          have cX := HCX.out _ U2.out.b
          have U3 := Lib.hid (U2.out.put (y := pr s L 256 (a + 1) (a + 1)) (322 + i) (.bool z) (by rw [HIA.out.1, ← HZ.out]; exact pr_o2 s L (a + 1) a HIA.out.2.2.2))
          have HKW := Lib.hid hkw
          clear halt hkw
          go_wp2_with (first
            | (refine wp_quo8 rfl _ _ _ _ rfl rfl a k b rfl HDV.out.1 HDV.out.2.1 HDV.out.2.2 ?_)
            | (refine wp_rem8 rfl _ _ _ _ rfl rfl a k b rfl HDV.out.1 HDV.out.2.1 HDV.out.2.2 ?_)
            | (refine wp_shr8 rfl _ _ _ _ rfl X rfl _ b r rfl HF.out.2.2.2.2 HF.out.1 ?_)
            | (refine wp_rem2 rfl _ _ (.tmp 65) _ rfl r r2 rfl HF.out.2.2.2.1 rfl HF.out.2.1 ?_)
            | (refine wp_eq1 rfl _ _ (.tmp 66) _ rfl Tryz.underlying5 r2 z rfl rfl HF.out.2.2.1 ?_))
          clear hpw hp0 hpn hpe u1 c6 f6 cX haw hae hil hi0 hi65
          go_roundw
          case rel => exact ⟨i + 1, Lib.hid (by have := HIA.out; omega), (by first | go_num | exact congrArg (Value.int .i64) HKW.out), Lib.hid (by rw [show i + 1 - 1 = a + 1 by have := HIA.out; omega]; exact U3.out)⟩
          case measure => have := HIA.out; first | (simp [intOf]; omega) | (rw [HKW.out]; simp [intOf]; omega)
        · obtain rfl : i = 65 := by have := HK.out; omega
          have NF := Lib.hid (p := RU w wr g2 g4 g5 (sr L)) (by unfold sr; rw [HS.out]; exact U.out)
          have hki : ¬ ((65 : Nat) : Int) ≤ 64 := by omega
          clear hi hkw U
          go_wp2_with (first
            | (refine step_load rfl 71 rfl 59 (.tmp 5) rfl g5 rfl (sr L).cs _ NF.out.r5.all Tryz.underlying59 rfl (i1.out _) ?_)
            | (go_at_call 67; refine (HP.out _).mono ?_; rintro e8 w18 ⟨rfl, hb8⟩
               have R10 := Lib.hid (NF.out.r5.kept hb8)
               have R48 := Lib.hid (NF.out.r4.kept hb8)
               have R28 := Lib.hid (NF.out.r2.kept hb8)
               have HB8 := Lib.hid (below_nxt hb8 NF.out.b)
               clear hb8)
            | (refine step_load rfl 83 rfl 59 (.tmp 4) rfl g4 rfl sup0.cs _ R48.out.all Tryz.underlying59 rfl (i1.out _) ?_)
            | (refine step_store rfl 59 (.tmp 2) (.tmp 83) rfl g2 (by rfl) _ sup0.cs sup0.cs (by rfl) R28.out (by rw [Sup.cs_len]) (i1.out _) (Sup.cs_one _) ?_; intro w20 hr20 hg20 hs20))
          refine bodyPost_ret (results_row_tmp rfl _ _ g2 _ _ _ _ rfl hr20 Tryz.underlying59 rfl (by simpa using i1.out sup0)) rfl ?_
          exact ⟨rfl, HB8.out.grown hg20 HB8.out.size (fun q hq => by injection hq with hq; subst hq; exact NF.out.q)⟩
theorem runpack_len (A : Option Addr) (n cb : Nat) (h256 : n ≠ 256) (hlen : n < 9223372036854775808) (w : World) :
    Calls Tryz.prog 32 #[.slice A n cb] w fun e w' => e = .returned (.tuple #[.agg sup0.cs.toArray, .int .i64 210]) ∧ Below w.heap.size w w' := by
  have i1 := Lib.hid (fun x : Sup => info_cs x)
  have hz := Lib.hid zero_sup
  have hne : ((n : Int) != 256) = true := by simp; omega
  have hlen' : (n : Int) ≤ 9223372036854775807 := by omega
  clear hlen h256
  go_enter Tryz.func32, Tryz.ntmps32
  go_wp2_with (first
    | (refine step_alloc rfl 2 rfl 59 rfl _ hz.out ?_; intro g2 w2 hr2 hg2 hb2 hs2
       have R2 := Lib.hid hr2
       have HB2 := Lib.hid hb2
       have Q2 := Lib.hid (p := w.heap.size ≤ g2) (by rw [hg2.out]; exact Nat.le_refl _)
       clear hr2 hb2 hg2 hs2)
    | (refine step_build rfl 59 #[] rfl [] ?hv _ built_sup0 ?_; case hv => simp)
    | (refine step_alloc rfl 4 rfl 59 rfl _ hz.out ?_; intro g4 w3 hr3 hg3 hb3 hs3
       have R3 := Lib.hid hr3
       have R23 := Lib.hid (R2.out.kept hb3)
       have HB3 := Lib.hid (below_nxt hb3 HB2.out)
       have N24 := Lib.hid (p := g2 < g4) (by rw [hg3.out]; exact R2.out.lt)
       clear hr3 hb3 hg3 hs3)
    | (refine step_store rfl 59 (.tmp 4) (.tmp 10) rfl g4 (by rfl) _ sup0.cs sup0.cs (by rfl) R3.out (by rw [Sup.cs_len]) (i1.out _) (Sup.cs_one _) ?_; intro w4 hr4 hg4 hs4
       have R4 := Lib.hid hr4
       have R24 := Lib.hid (R23.out.grown hg4 (fun e => by injection e with e; have := N24.out; omega))
       have HB4 := Lib.hid (p := Below w.heap.size w w4) (HB3.out.grown hg4 HB3.out.size (fun q hq => by injection hq with hq; have := N24.out; have := Q2.out; omega))
       clear hr4 hg4 hs4)
    | (refine step_alloc rfl 5 rfl 59 rfl _ hz.out ?_; intro g5 w5 hr5 hg5 hb5 hs5
       have R5 := Lib.hid hr5
       have R45 := Lib.hid (R4.out.kept hb5)
       have R25 := Lib.hid (R24.out.kept hb5)
       have HB5 := Lib.hid (below_nxt hb5 HB4.out)
       have N45 := Lib.hid (p := g4 < g5) (by rw [hg5.out]; exact R4.out.lt)
       clear hr5 hb5 hg5 hs5)
    | (refine step_store rfl 59 (.tmp 5) (.tmp 11) rfl g5 (by rfl) _ sup0.cs sup0.cs (by rfl) R5.out (by rw [Sup.cs_len]) (i1.out _) (Sup.cs_one _) ?_; intro w6 hr6 hg6 hs6
       have U6 := Lib.hid (p := RU w w6 g2 g4 g5 sup0) ⟨R25.out.grown hg6 (fun e => by injection e with e; have := N45.out; have := N24.out; omega), R45.out.grown hg6 (fun e => by injection e with e; have := N45.out; omega), hr6, ⟨N24.out, N45.out⟩, Q2.out, HB5.out.grown hg6 HB5.out.size (fun q hq => by injection hq with hq; have := N45.out; have := N24.out; have := Q2.out; omega)⟩
       clear hr6 hg6 hs6)
    | (refine step_load rfl 15 rfl 59 (.tmp 4) rfl g4 rfl sup0.cs _ U6.out.r4.all Tryz.underlying59 rfl (i1.out _) ?_)
    | (refine step_store rfl 59 (.tmp 2) (.tmp 15) rfl g2 (by rfl) _ sup0.cs sup0.cs (by rfl) U6.out.r2 (by rw [Sup.cs_len]) (i1.out _) (Sup.cs_one _) ?_; intro w20 hr20 hg20 hs20))
  refine bodyPost_ret (results_row_tmp rfl _ _ g2 _ _ _ _ rfl hr20 Tryz.underlying59 rfl (by simpa using i1.out sup0)) rfl ?_
  exact ⟨rfl, U6.out.b.grown hg20 U6.out.b.size (fun q hq => by injection hq with hq; subst hq; exact U6.out.q)⟩
theorem runpack_not (A : Option Addr) (n cb : Nat) (L : List UInt8) (hn : L.length = n) (hcap : n ≤ cb) (hlen : cb < 9223372036854775808) (hno : ¬ SOk L) (w : World) (hA : Hol w A L) :
    Calls Tryz.prog 32 #[.slice A n cb] w fun e w' => e = .returned (.tuple #[.agg sup0.cs.toArray, .int .i64 210]) ∧ Below w.heap.size w w' := by
  by_cases h256 : n = 256
  · subst h256
    by_cases hm : (sr L).May
    · exact runpack_diff A cb L hn hcap hlen hm (fun h => hno ⟨hn, hm, h⟩) w hA
    · exact runpack_may A cb L hn hcap hlen hm w hA
  · exact runpack_len A n cb h256 (by omega) w
end Go.Proofs.YtfbfeplegdpemaaGreat
