/- The reference's block: eight words behind a block, for all words and every block. No conditions. -/
import Derived.Test.YtibnmhaipogleaaDoorRot
import Derived.Test.YtibnmhaipogleaaDoorRows2
import Derived.Test.YtibnmhaipogleaaDoorEat
import Derived.Test.YtibnmhaipogleaaDoorMgZeros
import Derived.Deep.AppendLies
import Derived.Deep.RegionHeld3
import Derived.Deep.RegionLaw
import Derived.BigRegion
import Derived.BigQuiet
set_option linter.unusedVariables false
namespace Go.Proofs.YtibnmhaipogleaaDoor
open Go.RowKit

theorem info_u32 : (Tryd.prog.info? 22).map (fun i => (i.zero, i.size, i.bytes)) = some (some (.int .u32 0), 1, 4) := by kernel_rfl
theorem ap_zero (b : UInt8) : ap 0 b = b.toUInt32 := by
  unfold ap
  simp
theorem arr_zero (f : Nat → UInt32) : arr 0 f = [] := by unfold arr; rfl
theorem arr_succ (n : Nat) (f : Nat → UInt32) : arr (n + 1) f = arr n f ++ [U (f n)] := by
  unfold arr
  rw [List.range_succ, List.map_append]
  rfl

/-- One word appended to a row of the call's own. -/
theorem step_word {P : Program} {w : World} {ops : Array Oper} {o : Oper} {a : Act} {K : Act → World → Prop} {Q : Exit → Act → World → Prop} {E : Prop} (hgd : o.guard = none) (s x : Operand) (t : TypeId)
    (ho : o.op = .call { callee := .builtin .append, args := #[s, x], argTypes := #[t, t] }) (e : TypeId) (i : TypeInfo) (ht : P.underlying t = some (.slice e)) (hi : P.info? e = some i) (hz : i.zero = some (.int .u32 0)) (hs1 : i.size = 1) (hb4 : i.bytes = 4)
    (base : Nat) (v : Value) (n : Nat) (f : Nat → UInt32) (hs : a.eval s = v) (hown : w.ownsRow base e 1 v n (arr n f)) (ad : Addr) (hx : a.eval x = .slice (some ad) 1 1) (hc : w.cell? ad = some (U (f n))) (hn : n ≤ 1000) (hbase : base ≤ w.heap.size)
    (h : ∀ v' w', w'.ownsRow base e 1 v' (n + 1) (arr (n + 1) f) → w.grownBy w' v.ownBlock → (v'.ownBlock = v.ownBlock ∨ v'.ownBlock = some w.heap.size) → K (a.put o.dst v') w') :
    if Region.wanted o (yielded ops a.tmps) = true then Oper.wp P o a w K Q else E := by
  have hw : Region.wanted o (yielded ops a.tmps) = true := by simp [Region.wanted, hgd]
  rw [if_pos hw]
  obtain ⟨v', w', hr, h2, h3, _, h5⟩ := run_append_own_at (P := P) w base t o.type e i (.int .u32 0) 1 4 ht hi hz hs1 hb4 rfl (by decide) v n (arr n f) hown ad 1 1 [U (f n)] rfl
    (fun j u hu => by
      match j, hu with
      | 0, hu =>
        simp at hu
        subst hu
        rw [show ad.add 0 = ad by simp [Addr.add]]
        exact hc) (fun u hu => by rw [List.mem_singleton.1 hu]; rfl) (by unfold maxLen; omega) (by omega) hbase
  rw [← arr_succ] at h2
  unfold Oper.wp execOp
  simp only [ho, resolve, invoke, builtin, Sem.run_bind, Sem.run_pure, Result.andThen_ok, List.map_toArray, List.map_cons, List.map_nil, hs, hx, hr]
  exact h v' w' h2 h3 h5

/-- Eight words appended to a row of the call's own. -/
theorem wpList_row8 {P : Program} {w : World} {ops : Array Oper} {rest : List Oper} {o : Oper} {a : Act} {Q : Exit → Act → World → Prop} (hgd : o.guard = none) (s x : Operand) (t : TypeId)
    (ho : o.op = .call { callee := .builtin .append, args := #[s, x], argTypes := #[t, t] }) (e : TypeId) (i : TypeInfo) (ht : P.underlying t = some (.slice e)) (hi : P.info? e = some i) (hz : i.zero = some (.int .u32 0)) (hs1 : i.size = 1) (hb4 : i.bytes = 4)
    (base : Nat) (v : Value) (f : Nat → UInt32) (hs : a.eval s = v) (hown : w.ownsRow base e 1 v 0 []) (g c : Nat) (hx : a.eval x = .slice (some ⟨g, 0, none⟩) 8 c) (hc : w.rangeAt g 0 (arr 8 f)) (hbase : base ≤ w.heap.size)
    (h : ∀ v' w', w'.ownsRow base e 1 v' 8 (arr 8 f) → w.grownBy w' v.ownBlock → (v'.ownBlock = v.ownBlock ∨ v'.ownBlock = some w.heap.size) → wpList P ops Q rest (a.put o.dst v') w') : wpList P ops Q (o :: rest) a w := by
  refine wpList_plain hgd fun K hK => ?_
  obtain ⟨v', w', hr, h2, h3, _, h5⟩ := run_append_own_at (P := P) w base t o.type e i (.int .u32 0) 1 4 ht hi hz hs1 hb4 rfl (by decide) v 0 [] hown ⟨g, 0, none⟩ 8 c (arr 8 f) (by rw [arr_len])
    (fun j u hu => by rw [Addr.add_mid]; exact hc j u hu) (arr_one _ _) (by unfold maxLen; omega) (by omega) hbase
  rw [List.nil_append] at h2
  unfold Oper.wp execOp
  simp only [ho, resolve, invoke, builtin, Sem.run_bind, Sem.run_pure, Result.andThen_ok, List.map_toArray, List.map_cons, List.map_nil, hs, hx, hr]
  exact hK _ _ (h v' w' h2 h3 h5)
theorem range_below {w w' : World} {g o : Nat} {cs : List Value} {n : Nat} (h : w.rangeAt g o cs) (hb : Below n w w') (hg : cs ≠ [] → g < n) : w'.rangeAt g o cs := fun j v hv => by
  have : cs ≠ [] := by rintro rfl; simp at hv
  exact (hb.cell (p := ⟨g, o + j, none⟩) (hg this)).trans (h j v hv)
theorem rows_set (r : S8) (k w : UInt32) : ((((((((arr 8 r.at).set 7 (U r.g)).set 6 (U r.f)).set 5 (U r.e)).set 4 (U (r.d + t1 r.e r.f r.g r.h k w))).set 3 (U r.c)).set 2 (U r.b)).set 1 (U r.a)).set 0 (U (t1 r.e r.f r.g r.h k w + t2 r.a r.b r.c)) = arr 8 (rnd r k w).at := by
  rw [arr8, arr8]
  rfl
theorem rows_done {w wp : World} {g gx cx : Nat} {cs : List Value} {e : TypeId} (r : S8) (k x : UInt32) (h : wp.ownsRow w.heap.size e 1 (.slice (some ⟨gx, 0, none⟩) 8 cx) 8 (arr 8 r.at)) (hw : wp.rangeAt g 0 cs) (hb : Below w.heap.size w wp) (hgx : w.heap.size ≤ gx) (hne : g < gx) :
    ∀ W, W = ((((((((wp.setCell ⟨gx, 7, none⟩ (U r.g)).setCell ⟨gx, 6, none⟩ (U r.f)).setCell ⟨gx, 5, none⟩ (U r.e)).setCell ⟨gx, 4, none⟩ (U (r.d + t1 r.e r.f r.g r.h k x))).setCell ⟨gx, 3, none⟩ (U r.c)).setCell ⟨gx, 2, none⟩ (U r.b)).setCell ⟨gx, 1, none⟩ (U r.a)).setCell ⟨gx, 0, none⟩ (U (t1 r.e r.f r.g r.h k x + t2 r.a r.b r.c))) →
      W.ownsRow w.heap.size e 1 (.slice (some ⟨gx, 0, none⟩) 8 cx) 8 (arr 8 (rnd r k x).at) ∧ W.rangeAt g 0 cs ∧ Below w.heap.size w W := by
  rintro W rfl
  have s7 := h.stored 7 (U r.g)
  have s6 := s7.1.stored 6 (U r.f)
  have s5 := s6.1.stored 5 (U r.e)
  have s4 := s5.1.stored 4 (U (r.d + t1 r.e r.f r.g r.h k x))
  have s3 := s4.1.stored 3 (U r.c)
  have s2 := s3.1.stored 2 (U r.b)
  have s1 := s2.1.stored 1 (U r.a)
  have s0 := s1.1.stored 0 (U (t1 r.e r.f r.g r.h k x + t2 r.a r.b r.c))
  have hG := grown_trans s7.2 (grown_trans s6.2 (grown_trans s5.2 (grown_trans s4.2 (grown_trans s3.2 (grown_trans s2.2 (grown_trans s1.2 s0.2))))))
  refine ⟨?_, fun j v hv => hG.cell (hw j v hv) (fun e => by injection e with e; simp at e; omega), hb.grown hG hb.size (fun q hq => by injection hq with hq; omega)⟩
  rw [← rows_set]
  exact s0.1
theorem plus_comm (s r : S8) : r.plus s = s.plus r := by
  unfold S8.plus
  rw [UInt32.add_comm r.a, UInt32.add_comm r.b, UInt32.add_comm r.c, UInt32.add_comm r.d, UInt32.add_comm r.e, UInt32.add_comm r.f, UInt32.add_comm r.g, UInt32.add_comm r.h]
theorem kept_alloc {w w' : World} {o : Obj} {row : Option Nat} (hg : (w.drew.alloc o).grownBy w' row) : ∀ j, j < w.heap.size → some j ≠ row → w'.heap[j]? = w.heap[j]? := by
  intro j hj hne
  have h1 : j < (w.drew.alloc o).heap.size := by
    show j < (w.heap.push o).size
    simp
    omega
  exact (hg.block j h1 hne).trans (Below.heap_alloc w.drew o j hj)
theorem one_word (w : World) (e : TypeId) (x : UInt32) : (w.alloc (.cells #[U x] e)).cell? ⟨w.heap.size, 0, none⟩ = some (U x) := by simp

set_option maxRecDepth 20000 in
set_option maxHeartbeats 4000000 in
theorem block_any (gs gb gk ob cs cb ck : Nat) (s : S8) (f : Nat → UInt8) (w : World) (hs : w.rangeAt gs 0 (arr 8 s.at)) (hb : w.rangeAt gb ob (brr 64 f)) (hk : w.rangeAt gk 0 (arr 64 kk)) :
    Calls Tryd.prog 55 #[.slice (some ⟨gs, 0, none⟩) 8 cs, .slice (some ⟨gb, ob, none⟩) 64 cb, .slice (some ⟨gk, 0, none⟩) 64 ck] w
      fun e w' => ∃ g c, e = .returned (.slice (some ⟨g, 0, none⟩) 8 c) ∧ w'.rangeAt g 0 (arr 8 (cmp s f).at) ∧ w.heap.size ≤ g ∧ Below w.heap.size w w' := by
  obtain ⟨i, hi, hz0, hz1, hz2⟩ := info_parts info_u32
  have HB := Lib.hid hb
  have HK := Lib.hid hk
  have HSS := Lib.hid hs
  clear hb hk hs
  go_enter Tryd.func55, Tryd.ntmps55
  go_wp2
  go_loopw [7, 8] (fun v iv wr => ∃ k : Nat, k ≤ 16 ∧ iv = .int .i64 k ∧ wr.ownsRow w.heap.size 22 1 v k (arr k (sch f)) ∧ Below w.heap.size w wr) (fun _ i _ => 16 - (intOf i).toNat)
  case atStart => exact ⟨0, by omega, rfl, by rw [arr_zero]; exact World.ownsRow_nil _ _ _ _, Below.refl _ _⟩
  case round =>
    obtain ⟨k, hk, rfl, hown, hbel⟩ := hrel
    by_cases hlt : k < 16
    · have hb' : ∀ j, j < 64 → wr.cell? ⟨gb, ob + j, none⟩ = some (B (f j)) := fun j hj => by
        have := HB.out j _ (brr_get f hj)
        exact (hbel.cell (World.block_lt_of_cell? w _ this)).trans this
      obtain ⟨n0, e0⟩ : ∃ n0, n0 = 4 * k := ⟨_, rfl⟩
      obtain ⟨n1, e1⟩ : ∃ n1, n1 = 4 * k + 1 := ⟨_, rfl⟩
      obtain ⟨n2, e2⟩ : ∃ n2, n2 = 4 * k + 2 := ⟨_, rfl⟩
      obtain ⟨n3, e3⟩ : ∃ n3, n3 = 4 * k + 3 := ⟨_, rfl⟩
      have b0 := hb' n0 (by omega)
      have b1 := hb' n1 (by omega)
      have b2 := hb' n2 (by omega)
      have b3 := hb' n3 (by omega)
      have hw : Hid (sch f k = (((f n0).toUInt32 * 256 + (f n1).toUInt32) * 256 + (f n2).toUInt32) * 256 + (f n3).toUInt32) := by
        show _ = _
        rw [sch_lo f k hlt, e0, e1, e2, e3]
        unfold wd
        rw [ap_zero]
        rfl
      have w0 : IntKind.i64.wrap (4 * (k : Int)) = (n0 : Int) := by rw [IntKind.wrap_i64]; omega
      have w1 : IntKind.i64.wrap ((n0 : Int) + 1) = (n1 : Int) := by rw [IntKind.wrap_i64]; omega
      have w2 : IntKind.i64.wrap ((n0 : Int) + 2) = (n2 : Int) := by rw [IntKind.wrap_i64]; omega
      have w3' : IntKind.i64.wrap ((n0 : Int) + 3) = (n3 : Int) := by rw [IntKind.wrap_i64]; omega
      have l0 : (n0 : Int) < 64 := by omega
      have l1 : (n1 : Int) < 64 := by omega
      have l2 : (n2 : Int) < 64 := by omega
      have l3 : (n3 : Int) < 64 := by omega
      clear hb' e0 e1 e2 e3
      have hown' : wr.drew.ownsRow w.heap.size 22 1 u7 k (arr k (sch f)) := hown.drew
      have hbel' : Below w.heap.size w wr.drew := hbel.drew
      have hgbw : gb < w.heap.size := by
        have := World.block_lt_of_cell? w _ (HB.out 0 _ (brr_get f (by omega)))
        exact this
      have hov : ∀ g, u7.ownBlock = some g → w.heap.size ≤ g := fun g hg => (hown.lt g hg).1
      have HOV := Lib.hid hov
      clear hov
      have hkeep := Lib.hid (p := ∀ w5 : World, (∀ j, j < wr.heap.size → some j ≠ u7.ownBlock → w5.heap[j]? = wr.heap[j]?) → w5.cell? ⟨gb, ob + n0, none⟩ = some (B (f n0)) ∧ w5.cell? ⟨gb, ob + n1, none⟩ = some (B (f n1)) ∧
        w5.cell? ⟨gb, ob + n2, none⟩ = some (B (f n2)) ∧ w5.cell? ⟨gb, ob + n3, none⟩ = some (B (f n3))) (by
        intro w5 h
        have hsz := hbel.size
        have e : ∀ x, w5.cell? ⟨gb, x, none⟩ = wr.cell? ⟨gb, x, none⟩ := fun x => World.cell?_of_block (h gb (by omega) (fun e => by have := HOV.out gb e.symm; omega))
        exact ⟨(e _).trans b0, (e _).trans b1, (e _).trans b2, (e _).trans b3⟩)
      go_wp2
      go_region_held3 (fun w' => w'.cell? ⟨gb, ob + n0, none⟩ = some (B (f n0)) ∧ w'.cell? ⟨gb, ob + n1, none⟩ = some (B (f n1)) ∧ w'.cell? ⟨gb, ob + n2, none⟩ = some (B (f n2)) ∧ w'.cell? ⟨gb, ob + n3, none⟩ = some (B (f n3)))
        (first | (exact hkeep.out _ (kept_alloc hg3)) | go_keep)
        ((refine step_word rfl (.tmp 21) (.tmp 55) 93 rfl 22 i Tryd.underlying93 hi hz0 hz1 hz2 w.heap.size u7 k (sch f) (by rfl) (hown'.alloc _) ⟨wr.heap.size, 0, none⟩ (by rfl) (by rw [hw.out]; exact one_word wr.drew _ _) (by omega) (by have := hbel'.size; simp at this ⊢; omega) ?_; intro v3 w3 hown3 hg3 hat3))
      have hb3 : Below w.heap.size w w3 := (hbel'.alloc hbel'.size _).grown hg3 (by have := hbel'.size; simp at this ⊢; omega) (fun g hg => HOV.out g hg)
      clear hown hbel hown' hbel' hg3 hat3 hkeep
      go_wp2
      go_roundw
      case rel => exact ⟨k + 1, by omega, by go_num, hown3, hb3⟩
      case measure => simp [intOf]; omega
    · obtain rfl : k = 16 := by omega
      clear hlt
      go_wp2
      obtain ⟨wo, rfl⟩ : ∃ wo : World, wo = wr := ⟨_, rfl⟩
      go_loopw [7, 9] (fun v iv wr => ∃ k : Nat, 16 ≤ k ∧ k ≤ 64 ∧ iv = .int .i64 k ∧ wr.ownsRow w.heap.size 22 1 v k (arr k (sch f)) ∧ Below w.heap.size w wr) (fun _ i _ => 64 - (intOf i).toNat)
      case atStart => exact ⟨16, by omega, by omega, rfl, hown, hbel⟩
      case round =>
        obtain ⟨t, h16, ht, rfl, hown1, hbel1⟩ := hrel
        clear hown hbel hk
        obtain ⟨g, cap, rfl, hgb, hgl⟩ := hown1.form (by omega)
        have hcell : ∀ j, j < t → wr.cell? ⟨g, j, none⟩ = some (U (sch f j)) := fun j hj => by rw [hown1.cellAt j (by omega), arr_get _ hj]
        by_cases hlt : t < 64
        · obtain ⟨m2, e2⟩ : ∃ m, m = t - 2 := ⟨_, rfl⟩
          have c2 := hcell m2 (by omega)
          have x2 : IntKind.i64.wrap ((t : Int) - 2) = (m2 : Int) := by rw [IntKind.wrap_i64]; omega
          have z2 : (t : Int) - 2 = (m2 : Int) := by omega
          have y2 : (m2 : Int) < t := by omega
          have v2 : IntKind.i64.wrap (m2 : Int) = (m2 : Int) := by rw [IntKind.wrap_i64]; omega
          obtain ⟨m15, e15⟩ : ∃ m, m = t - 15 := ⟨_, rfl⟩
          have c15 := hcell m15 (by omega)
          have x15 : IntKind.i64.wrap ((t : Int) - 15) = (m15 : Int) := by rw [IntKind.wrap_i64]; omega
          have z15 : (t : Int) - 15 = (m15 : Int) := by omega
          have y15 : (m15 : Int) < t := by omega
          have v15 : IntKind.i64.wrap (m15 : Int) = (m15 : Int) := by rw [IntKind.wrap_i64]; omega
          obtain ⟨m7, e7⟩ : ∃ m, m = t - 7 := ⟨_, rfl⟩
          have c7 := hcell m7 (by omega)
          have x7 : IntKind.i64.wrap ((t : Int) - 7) = (m7 : Int) := by rw [IntKind.wrap_i64]; omega
          have z7 : (t : Int) - 7 = (m7 : Int) := by omega
          have y7 : (m7 : Int) < t := by omega
          have v7 : IntKind.i64.wrap (m7 : Int) = (m7 : Int) := by rw [IntKind.wrap_i64]; omega
          obtain ⟨m16, e16⟩ : ∃ m, m = t - 16 := ⟨_, rfl⟩
          have c16 := hcell m16 (by omega)
          have x16 : IntKind.i64.wrap ((t : Int) - 16) = (m16 : Int) := by rw [IntKind.wrap_i64]; omega
          have z16 : (t : Int) - 16 = (m16 : Int) := by omega
          have y16 : (m16 : Int) < t := by omega
          have v16 : IntKind.i64.wrap (m16 : Int) = (m16 : Int) := by rw [IntKind.wrap_i64]; omega
          have hS : Hid (sch f t = sg1 (sch f m2) + sch f m7 + sg0 (sch f m15) + sch f m16) := by
            show _ = _
            rw [sch_hi f t h16, e2, e7, e15, e16]
          clear e2 e7 e15 e16
          clear hcell
          have HO := Lib.hid hown1
          have HBL := Lib.hid hbel1
          clear hown1 hbel1
          go_wp2
          go_quiet ((go_at_call 66; refine Calls.quiet_of_same (rotr_at _ _ (by decide) (by decide) _)))
          go_wp2
          obtain ⟨wq, hwq⟩ : ∃ wq, wq = wr.drewN nq := ⟨_, rfl⟩
          rw [← hwq]
          have HO1 : Hid (wq.ownsRow w.heap.size 22 1 (.slice (some ⟨g, 0, none⟩) t cap) t (arr t (sch f))) := by rw [hwq]; exact HO.out
          have HBL1 : Hid (Below w.heap.size w wq) := by rw [hwq]; exact below_drewN HBL.out _
          have c2' : wq.cell? ⟨g, m2, none⟩ = some (U (sch f m2)) := by rw [hwq]; exact c2
          have c7' : wq.cell? ⟨g, m7, none⟩ = some (U (sch f m7)) := by rw [hwq]; exact c7
          have c16' : wq.cell? ⟨g, m16, none⟩ = some (U (sch f m16)) := by rw [hwq]; exact c16
          clear hwq c2 c7 c15 c16 HO HBL
          go_quiet ((go_at_call 66; refine Calls.quiet_of_same (rotr_at _ _ (by decide) (by decide) _)))
          go_wp2
          obtain ⟨wp, hwp⟩ : ∃ wp, wp = wq.drewN nq := ⟨_, rfl⟩
          rw [← hwp]
          have HO2 : Hid (wp.ownsRow w.heap.size 22 1 (.slice (some ⟨g, 0, none⟩) t cap) t (arr t (sch f))) := by rw [hwp]; exact HO1.out
          have HBL2 : Hid (Below w.heap.size w wp) := by rw [hwp]; exact below_drewN HBL1.out _
          have d7 : wp.cell? ⟨g, m7, none⟩ = some (U (sch f m7)) := by rw [hwp]; exact c7'
          have d16 : wp.cell? ⟨g, m16, none⟩ = some (U (sch f m16)) := by rw [hwp]; exact c16'
          clear hwp c2' c7' c16' HO1 HBL1
          have hown' : wp.drew.ownsRow w.heap.size 22 1 (.slice (some ⟨g, 0, none⟩) t cap) t (arr t (sch f)) := HO2.out.drew
          have hbel' : Below w.heap.size w wp.drew := HBL2.out.drew
          have hsz' : w.heap.size ≤ wp.heap.size := HBL2.out.size
          have hone := Lib.hid (one_word wp.drew 22 (sch f t))
          go_region_law (refine step_word rfl (.tmp 101) (.tmp 117) 93 rfl 22 i Tryd.underlying93 hi hz0 hz1 hz2 w.heap.size (.slice (some ⟨g, 0, none⟩) t cap) t (sch f) (by rfl) (hown'.alloc _) ⟨wp.heap.size, 0, none⟩ (by rfl) (by rw [hS.out]; exact one_word wp.drew _ _) (by omega) (by simp; omega) ?_; intro v3 w3 hown3 hg3 hat3)
          all_goals
            have hb3 : Below w.heap.size w w3 := (hbel'.alloc hbel'.size _).grown hg3 (by simp; omega) (fun k hk => by
              have e : g = k := by simpa [Value.ownBlock] using hk
              omega)
            have HN3 := Lib.hid hown3
            have HB3 := Lib.hid hb3
            clear hown3 hg3 hat3 hown' hbel' hb3
            go_wp2
            go_roundw
            case rel =>
              repeat apply Exists.intro
              apply And.intro ?ra ?rb
              case rb => exact rfl
              case ra => exact ⟨t + 1, by omega, by omega, by go_num, HN3.out, HB3.out⟩
            case measure => simp [intOf]; omega
        · obtain rfl : t = 64 := by omega
          have hgs : gs < w.heap.size := World.block_lt_of_cell? w _ (HSS.out 0 _ (arr_get s.at (by omega)))
          have hwr : wr.rangeAt g 0 (arr 64 (sch f)) := fun j v hv => by
            have hj : j < 64 := by
              have := (List.getElem?_eq_some_iff.1 hv).1
              rwa [arr_len] at this
            rw [Nat.zero_add, hown1.cellAt j (by omega)]
            exact hv
          have hrs : (wr.alloc (.cells #[] 22)).rangeAt gs 0 (arr 8 s.at) := World.rangeAt_alloc (range_below HSS.out hbel1 (fun _ => hgs)) _
          have hown0 := World.ownsRow_made (base := w.heap.size) (e := 22) (size := 1) wr #[] 0 hbel1.size (by decide) rfl
          have hw0 : w.heap.size ≤ wr.heap.size := hbel1.size
          have HO0 := Lib.hid hown0
          have HRS := Lib.hid hrs
          have HWR := Lib.hid hwr
          have HBL := Lib.hid hbel1
          clear hown1 hbel1 hcell hlt hown0 hrs hwr
          go_wp2_with (at_builtin; refine wpList_row8 rfl (.tmp 119) (.tmp 120) 93 rfl 22 i Tryd.underlying93 hi hz0 hz1 hz2 w.heap.size (.slice (some ⟨wr.heap.size, 0, none⟩) 0 0) s.at rfl HO0.out gs cs rfl HRS.out (by simp; omega) ?_; intro v8 w8 hown8 hg8 hat8)
          obtain ⟨gx, cx, rfl, hgx, hgx8⟩ := hown8.form (by omega)
          have hgxg : g < gx := by
            rcases hat8 with e | e
            · have : gx = wr.heap.size := by simpa [Value.ownBlock] using e
              omega
            · have : gx = wr.heap.size + 1 := by simpa [Value.ownBlock] using e
              omega
          have hba : Below w.heap.size w (wr.alloc (.cells #[] 22)) := HBL.out.alloc HBL.out.size _
          have hb8 : Below w.heap.size w w8 := hba.grown hg8 hba.size (fun k hk => by
            have e : wr.heap.size = k := by simpa [Value.ownBlock] using hk
            omega)
          have hw8 : w8.rangeAt g 0 (arr 64 (sch f)) := fun j v hv => by
            refine hg8.cell (World.rangeAt_alloc HWR.out _ j v hv) ?_
            intro e
            have e : g = wr.heap.size := by simpa [Value.ownBlock] using e
            omega
          clear HO0 HRS HWR HBL hg8 hat8 hba hw0
          go_loopw [13] (fun iv wr => ∃ k : Nat, k ≤ 64 ∧ iv = .int .i64 k ∧ wr.ownsRow w.heap.size 22 1 (.slice (some ⟨gx, 0, none⟩) 8 cx) 8 (arr 8 (rnds s (sch f) k).at) ∧ wr.rangeAt g 0 (arr 64 (sch f)) ∧ Below w.heap.size w wr) (fun i _ => 64 - (intOf i).toNat)
          case atStart => exact ⟨0, by omega, rfl, hown8, hw8, hb8⟩
          case round =>
            obtain ⟨k, hk64, rfl, hown, hwg, hbl⟩ := hrel
            clear hown8 hw8 hb8 hgx8
            by_cases hlt : k < 64
            · obtain ⟨r, hr⟩ : ∃ r, r = rnds s (sch f) k := ⟨_, rfl⟩
              have hR : Hid (rnds s (sch f) (k + 1) = rnd r (kk k) (sch f k)) := by rw [hr]; rfl
              rw [← hr] at hown
              clear hr
              have hc : ∀ j, j < 8 → wr.cell? ⟨gx, j, none⟩ = some (U (r.at j)) := fun j hj => by rw [hown.cellAt j (by omega), arr_get _ hj]
              have a0 : wr.cell? ⟨gx, 0, none⟩ = some (U r.a) := hc 0 (by omega)
              have a1 : wr.cell? ⟨gx, 1, none⟩ = some (U r.b) := hc 1 (by omega)
              have a2 : wr.cell? ⟨gx, 2, none⟩ = some (U r.c) := hc 2 (by omega)
              have a3 : wr.cell? ⟨gx, 3, none⟩ = some (U r.d) := hc 3 (by omega)
              have a4 : wr.cell? ⟨gx, 4, none⟩ = some (U r.e) := hc 4 (by omega)
              have a5 : wr.cell? ⟨gx, 5, none⟩ = some (U r.f) := hc 5 (by omega)
              have a6 : wr.cell? ⟨gx, 6, none⟩ = some (U r.g) := hc 6 (by omega)
              have a7 : wr.cell? ⟨gx, 7, none⟩ = some (U r.h) := hc 7 (by omega)
              have cw : wr.cell? ⟨g, k, none⟩ = some (U (sch f k)) := by
                have := hwg k _ (arr_get (sch f) hlt)
                rwa [Nat.zero_add] at this
              have ck' : wr.cell? ⟨gk, k, none⟩ = some (U (kk k)) := by
                have := HK.out k _ (arr_get kk hlt)
                rw [Nat.zero_add] at this
                exact (hbl.cell (World.block_lt_of_cell? w _ this)).trans this
              have hkI : (k : Int) < 64 := by omega
              have HO := Lib.hid hown
              have HW := Lib.hid hwg
              have HBL := Lib.hid hbl
              clear hown hwg hbl hc
              go_wp2
              go_quiet ((go_at_call 66; refine Calls.quiet_of_same (rotr_at _ _ (by decide) (by decide) _)))
              go_wp2
              obtain ⟨wq, hwq⟩ : ∃ wq, wq = wr.drewN nq := ⟨_, rfl⟩
              rw [← hwq]
              have HO1 : Hid (wq.ownsRow w.heap.size 22 1 (.slice (some ⟨gx, 0, none⟩) 8 cx) 8 (arr 8 r.at)) := by rw [hwq]; exact HO.out
              have HW1 : Hid (wq.rangeAt g 0 (arr 64 (sch f))) := by rw [hwq]; exact HW.out
              have HBL1 : Hid (Below w.heap.size w wq) := by rw [hwq]; exact below_drewN HBL.out _
              rw [show wr.cell? = wq.cell? from by rw [hwq]; rfl] at a0 a1 a2 a3 a4 a5 a6 a7
              clear hwq HO HW HBL cw ck'
              go_quiet ((go_at_call 66; refine Calls.quiet_of_same (rotr_at _ _ (by decide) (by decide) _)))
              obtain ⟨wp, hwp⟩ : ∃ wp, wp = wq.drewN nq := ⟨_, rfl⟩
              rw [← hwp]
              have HO2 : Hid (wp.ownsRow w.heap.size 22 1 (.slice (some ⟨gx, 0, none⟩) 8 cx) 8 (arr 8 r.at)) := by rw [hwp]; exact HO1.out
              have HW2 : Hid (wp.rangeAt g 0 (arr 64 (sch f))) := by rw [hwp]; exact HW1.out
              have HBL2 : Hid (Below w.heap.size w wp) := by rw [hwp]; exact below_drewN HBL1.out _
              rw [show wq.cell? = wp.cell? from by rw [hwp]; rfl] at a0 a1 a2 a3 a4 a5 a6 a7
              clear hwp HO1 HW1 HBL1
              have f0 := HO2.out.frozenAt 0
              have f1 := HO2.out.frozenAt 1
              have f2 := HO2.out.frozenAt 2
              have f3 := HO2.out.frozenAt 3
              have f4 := HO2.out.frozenAt 4
              have f5 := HO2.out.frozenAt 5
              have f6 := HO2.out.frozenAt 6
              have f7 := HO2.out.frozenAt 7
              have hdone := Lib.hid (rows_done (w := w) r (kk k) (sch f k) HO2.out HW2.out HBL2.out hgx hgxg)
              go_wp2
              go_roundw
              case rel => exact ⟨k + 1, by omega, by go_num, by rw [hR.out]; exact hdone.out _ rfl⟩
              case measure => simp [intOf]; omega
            · obtain rfl : k = 64 := by omega
              clear hlt
              obtain ⟨r, hr⟩ : ∃ r, r = rnds s (sch f) 64 := ⟨_, rfl⟩
              have hC : Hid (cmp s f = s.plus r) := by rw [hr]; rfl
              rw [← hr] at hown
              clear hr
              go_wp2
              obtain ⟨wo, rfl⟩ : ∃ wo : World, wo = wr := ⟨_, rfl⟩
              go_loopw [16] (fun iv wr => ∃ k : Nat, k ≤ 8 ∧ iv = .int .i64 k ∧ wr.ownsRow w.heap.size 22 1 (.slice (some ⟨gx, 0, none⟩) 8 cx) 8 (arr 8 (mix r s k)) ∧ Below w.heap.size w wr) (fun i _ => 8 - (intOf i).toNat)
              case atStart => exact ⟨0, by omega, rfl, by rw [mix_zero]; exact hown, hbl⟩
              case round =>
                obtain ⟨k, hk8, rfl, hown', hbl'⟩ := hrel
                clear hown hwg hbl
                by_cases hlt : k < 8
                · have c1 : wr.cell? ⟨gx, k, none⟩ = some (U (r.at k)) := by rw [hown'.cellAt k (by omega), arr_get _ hlt, mix_at]
                  have c2 : wr.cell? ⟨gs, k, none⟩ = some (U (s.at k)) := by
                    have := HSS.out k _ (arr_get s.at hlt)
                    rw [Nat.zero_add] at this
                    exact (hbl'.cell (World.block_lt_of_cell? w _ this)).trans this
                  have hfr := hown'.frozenAt k
                  have hkI : (k : Int) < 8 := by omega
                  have hst := hown'.drew.stored k (U (r.at k + s.at k))
                  rw [arr_set, mix_step r s k hlt] at hst
                  have HST := Lib.hid hst
                  have HB8 := Lib.hid (hbl'.drew.setCell (p := ⟨gx, k, none⟩) hgx (U (r.at k + s.at k)))
                  clear hst hown' hbl'
                  go_wp2
                  go_region
                  all_goals
                    go_wp2
                    go_roundw
                    case rel => exact ⟨k + 1, by omega, by go_num, HST.out.1, HB8.out⟩
                    case measure => simp [intOf]; omega
                · obtain rfl : k = 8 := by omega
                  go_wp2
                  go_ret
                  refine ⟨gx, cx, rfl, ?_, hgx, hbl'⟩
                  intro j v hv
                  rw [Nat.zero_add, hown'.cellAt j (by have := (List.getElem?_eq_some_iff.1 hv).1; rw [arr_len] at this; omega), mix_full, plus_comm, ← hC.out]
                  exact hv
end Go.Proofs.YtibnmhaipogleaaDoor
