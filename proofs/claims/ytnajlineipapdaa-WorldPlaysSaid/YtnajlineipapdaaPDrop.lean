/- The library's Delete at one waiting write, and the disk's drop. Conditions: the row lies there, of the call's own. -/
import Derived.Test.YtnajlineipapdaaPTam
import Derived.Laws.OwnMore
import Derived.ArgAppend
import Derived.Deep.RegionLaw
set_option linter.unusedVariables false
namespace Go.Proofs.Ytnajlineipapdaa
open Go.RowKit

/-- Cells behind a row's length cleared. -/
theorem run_clear_room (w : World) (ty : TypeId) (b g c i m : Nat) (xs : List Value) (h : w.ownsRow b 79 2 (.slice (some ⟨g, 0, none⟩) i c) i xs) (hm : i + (m + 1) ≤ c) (c2 : Nat) :
    ∃ w', (Builtin.clear_ #[71] ty #[.slice (some ⟨g, i * 2, none⟩) (m + 1) c2]).run Try.prog w = .ok (.tuple #[]) w' ∧ (w'.ownsRow b 79 2 (.slice (some ⟨g, 0, none⟩) i c) i xs ∧ w.grownBy w' (some g)) := by
  obtain ⟨cur, hr, hl, ht, hnc, hcm, hb⟩ := own_row h
  have hz : (zeroValue 79).run Try.prog w = .ok (.agg #[Value.int .i64 0, .slice none 0 0]) w := by kernel_rfl
  obtain ⟨zs, hzs⟩ : ∃ zs, (Builtin.zeroCells (Value.agg #[Value.int .i64 0, .slice none 0 0]).cells (m + 1)).toList = zs := ⟨_, rfl⟩
  have hc2 : (Value.agg #[Value.int .i64 0, .slice none 0 0]).cells = #[Value.int .i64 0, .slice none 0 0] := rfl
  have hzl : zs.length = (m + 1) * 2 := by rw [← hzs, hc2]; simp [Builtin.zeroCells]
  have hz1 : ∀ v ∈ zs, v.oneCell' = true := by
    intro v hv
    rw [← hzs, hc2] at hv
    simp only [Builtin.zeroCells, Array.toList_map, List.mem_map] at hv
    obtain ⟨j, _, rfl⟩ := hv
    have hj2 : j % 2 = 0 ∨ j % 2 = 1 := by omega
    rcases hj2 with e | e <;> simp [e, Value.oneCell']
  have hst := run_storeCells_cells (P := Try.prog) g (i * 2) zs 0 w (fun j hj => by
    rw [hr.cell, List.getElem?_eq_getElem (by rw [hl]; omega)]
    rfl) (fun j hj => hr.free _) hz1
  obtain ⟨ol', h1, h2, h3, h4⟩ := row_cells2 zs (i * 2) w cur hr
  rw [Nat.add_zero] at hst
  refine ⟨_, ?_, ?_, h4⟩
  · simp [Builtin.clear_, run_underlying Try.underlying71, hz, hzs, hst]
  · have h5 := row_own (b := b) (n := i) (c := c) (k := 2) h1 (by rw [h2, hl]) (by omega) hcm hb
    rw [h3, ht] at h5
    exact h5
theorem rec_write_info : ∃ i, Try.prog.info? 79 = some i ∧ i.size = 2 := by
  obtain ⟨i, z, h1, _, h3, _⟩ := rec_write.inf
  exact ⟨i, h1, h3⟩
set_option maxRecDepth 20000 in
/-- A row without one of its records, in place. -/
theorem run_cut (w : World) (ty : TypeId) (b g c k m : Nat) (rs : List (Nat × BV)) (hl : rs.length = k + 1 + m) (h : w.ownsRow b 79 2 (.slice (some ⟨g, 0, none⟩) (k + 1 + m) c) (k + 1 + m) (rs.flatMap wcs)) (c2 : Nat) (ad : Addr) (had : m = 0 ∨ ad = ⟨g, (k + 1) * 2, none⟩) :
    (Builtin.append_ #[71, 71] ty #[.slice (some ⟨g, 0, none⟩) k c, .slice (some ad) m c2]).run Try.prog w = .ok (.slice (some ⟨g, 0, none⟩) (k + m) c) (w.setCells g (k * 2) ((rs.drop (k + 1)).flatMap wcs)) ∧
    (w.setCells g (k * 2) ((rs.drop (k + 1)).flatMap wcs)).ownsRow b 79 2 (.slice (some ⟨g, 0, none⟩) (k + m) c) (k + m) ((rs.take k ++ rs.drop (k + 1)).flatMap wcs) ∧ w.grownBy (w.setCells g (k * 2) ((rs.drop (k + 1)).flatMap wcs)) (some g) := by
  obtain ⟨i, hi, hs⟩ := rec_write_info
  obtain ⟨cur, hr, hcl, ht, hnc, hcm, hb⟩ := own_row h
  have hnl : ((rs.drop (k + 1)).flatMap wcs).length = m * 2 := by rw [flat_len wcs_len, List.length_drop, hl]; congr 1; omega
  have hnews : ∀ (j : Nat) (u : Value), ((rs.drop (k + 1)).flatMap wcs)[j]? = some u → w.cell? (ad.add j) = some u := by
    intro j u hu
    rcases had with hm0 | rfl
    · have := (List.getElem?_eq_some_iff.1 hu).1
      rw [hnl, hm0] at this
      omega
    have h1 : (rs.flatMap wcs)[(k + 1) * 2 + j]? = some u := by
      conv => lhs; rw [← List.take_append_drop (k + 1) rs, List.flatMap_append]
      rw [List.getElem?_append_right (by rw [flat_len wcs_len, List.length_take]; omega), flat_len wcs_len, List.length_take, Nat.min_eq_left (by omega), Nat.add_sub_cancel_left]
      exact hu
    have h2 := h.cells (g := g) rfl _ _ h1
    rw [Addr.add_lit, Nat.zero_add] at h2
    rw [Addr.add_lit]
    exact h2
  have h0 : w.ownsRow b 79 2 (.slice (some ⟨g, 0, none⟩) k c) k ((rs.take k).flatMap wcs) := by
    have h5 := row_own (b := b) (n := k) (c := c) (k := 2) hr hcl (by omega) hcm hb
    have h6 : cur.take (k * 2) = (rs.take k).flatMap wcs := by
      have h7 : cur.take (k * 2) = (rs.flatMap wcs).take (k * 2) := by rw [← ht, List.take_take, Nat.min_eq_left (by omega)]
      rw [h7]
      conv => lhs; rw [← List.take_append_drop k rs, List.flatMap_append]
      rw [List.take_append_of_le_length (by rw [flat_len wcs_len, List.length_take]; omega), List.take_of_length_le (by rw [flat_len wcs_len, List.length_take]; omega)]
    rw [h6] at h5
    exact h5
  have hone := flat_one wcs_one (rs.drop (k + 1))
  have hrun := run_append_room_cells (P := Try.prog) w 71 ty 79 i Try.underlying71 hi g 0 k c ad m c2 _ (by rw [hnl, hs]) hnews hone (by omega)
    (fun j hj => by
      rw [hnl] at hj
      rw [hr.cell, List.getElem?_eq_getElem (by rw [hcl, hs]; omega)]
      rfl) (fun j hj => hr.free _)
  rw [hs, Nat.zero_add] at hrun
  obtain ⟨w', hrun', ho, hg⟩ := run_append_fits (P := Try.prog) w b 71 ty 79 i 2 Try.underlying71 hi hs g k c _ h0 ad m c2 _ hnl hnews hone (by omega)
  rw [hrun] at hrun'
  injection hrun' with _ hw
  subst hw
  rw [List.flatMap_append]
  exact ⟨hrun, ho, hg⟩
/-- An append by its run equation, at a step of a region that draws. -/
theorem step_app {P : Program} {w : World} {ops : Array Oper} {o : Oper} {a : Act} {K : Act → World → Prop} {Q : Exit → Act → World → Prop} {E : Prop} {t : TypeId} (hgd : o.guard = none) (s x : Operand)
    (ho : o.op = .call { callee := .builtin .append, args := #[s, x], argTypes := #[t, t] }) (vs vx : Value) (hs : a.eval s = vs) (hx : a.eval x = vx) (v' : Value) (w' : World)
    (hr : ∀ ty, (Builtin.append_ #[t, t] ty #[vs, vx]).run P w = .ok v' w') (h : K (a.put o.dst v') w') :
    if Region.wanted o (yielded ops a.tmps) = true then Oper.wp P o a w K Q else E := by
  have hw : Region.wanted o (yielded ops a.tmps) = true := by simp [Region.wanted, hgd]
  rw [if_pos hw]
  unfold Oper.wp execOp
  simp only [ho, resolve, invoke, builtin, Sem.run_bind, Sem.run_pure, Result.andThen_ok, List.map_toArray, List.map_cons, List.map_nil, hs, hx, hr]
  exact h
/-- The list without one of its places. -/
def cut1 (rs : List (Nat × BV)) (k : Nat) : List (Nat × BV) := rs.take k ++ rs.drop (k + 1)
set_option maxRecDepth 20000 in
set_option maxHeartbeats 1000000 in
theorem delete_mid (w : World) (b g c k n : Nat) (rs : List (Nat × BV)) (hl : rs.length = n) (hk : k < n) (hbig : n ≤ 1000000) (h : w.ownsRow b 79 2 (.slice (some ⟨g, 0, none⟩) n c) n (rs.flatMap wcs)) (hck : ¬ c = k + 1) :
    Calls Try.prog 55 #[.slice (some ⟨g, 0, none⟩) n c, .int .i64 (k : Int), .int .i64 ((k : Int) + 1)] w fun e w' =>
      e = .returned (.slice (some ⟨g, 0, none⟩) (n - 1) c) ∧ w'.ownsRow b 79 2 (.slice (some ⟨g, 0, none⟩) (n - 1) c) (n - 1) ((cut1 rs k).flatMap wcs) ∧ w.grownBy w' (some g) := by
  have hcap : n ≤ c := by
    obtain ⟨_, _, _, _, hnc, _, _⟩ := own_row h
    exact hnc
  obtain ⟨m, hm⟩ : ∃ m, n = k + 1 + m := ⟨n - (k + 1), by omega⟩
  have hcut : ∀ ty, (Builtin.append_ #[71, 71] ty #[.slice (some ⟨g, 0, none⟩) k c, .slice (some ⟨g, (k + 1) * 2, none⟩) (n - (k + 1)) (c - (k + 1))]).run Try.prog w.drew = .ok (.slice (some ⟨g, 0, none⟩) (n - 1) c) (w.drew.setCells g (k * 2) ((rs.drop (k + 1)).flatMap wcs)) := by
    intro ty
    have h1 := (run_cut w.drew ty b g c k m rs (by omega) (by rw [← hm]; exact own_kept h (below_drw w)) (c - (k + 1)) ⟨g, (k + 1) * 2, none⟩ (.inr rfl)).1
    rw [show n - (k + 1) = m by omega, show n - 1 = k + m by omega]
    exact h1
  have h2 := (run_cut w.drew 0 b g c k m rs (by omega) (by rw [← hm]; exact own_kept h (below_drw w)) (c - (k + 1)) ⟨g, (k + 1) * 2, none⟩ (.inr rfl)).2
  rw [show k + m = n - 1 by omega] at h2
  obtain ⟨w2, hw2⟩ : ∃ w2, w.drew.setCells g (k * 2) ((rs.drop (k + 1)).flatMap wcs) = w2 := ⟨_, rfl⟩
  rw [hw2] at h2
  simp only [hw2] at hcut
  have HO := Lib.hid h2.1
  have HG := Lib.hid (grown_trans (grown_of_below (below_drw w)) h2.2)
  have i0 : (0 : Int) ≤ (k : Int) := by omega
  have i1 : (k : Int) ≤ (k : Int) + 1 := by omega
  have i2 : (k : Int) + 1 ≤ (n : Int) := by omega
  have i3 : (n : Int) ≤ (c : Int) := by omega
  have i4 : ((k : Int) == (k : Int) + 1) = false := beq_false_of_ne (by omega)
  have i5 : (k : Int) ≤ (n : Int) := by omega
  have i6 : (k : Int) ≤ (c : Int) := by omega
  have i7 : (0 : Int) ≤ (k : Int) + 1 := by omega
  have i8 : (((n - 1 : Nat)) : Int) ≤ (n : Int) := by omega
  have i9 : ((k : Int) + 1).toNat = k + 1 := by omega
  have i10 : ¬ c = n - 1 := by omega
  have i11 : n - (n - 1) = 1 := by omega
  have HN := Lib.hid (p := n - 1 + (0 + 1) ≤ c) (by omega)
  clear h h2 hw2 hl hm hk hbig hcap
  go_enter Try.func55, Try.ntmps55
  go_wp2_with fail
  go_region_law (refine step_app rfl _ _ rfl _ _ rfl rfl _ _ hcut ?_)
  all_goals
    go_wp2_with (first
      | (refine wp_clear rfl _ _ rfl _ rfl _ (run_clear_room w2 _ b g c (n - 1) 0 _ HO.out HN.out _) ?_; rintro w9 ⟨ho9, hg9⟩
         have HO9 := Lib.hid ho9
         have HG9 := Lib.hid hg9
         clear ho9 hg9))
    go_ret
    exact ⟨rfl, HO9.out, grown_trans HG.out HG9.out⟩
end Go.Proofs.Ytnajlineipapdaa
