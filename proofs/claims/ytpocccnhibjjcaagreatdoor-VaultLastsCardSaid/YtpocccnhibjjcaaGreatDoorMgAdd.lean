/- Bytes added to a hash: for every hash, and bytes up to 2^50 in all. Condition: the listed tables. -/
import Derived.Test.YtpocccnhibjjcaaGreatDoorMgSx
import Derived.Laws.CopyOwn
import Derived.Deep.RegionLaw
import Derived.Deep.RegionWith
set_option linter.unusedVariables false
namespace Go.Proofs.YtpocccnhibjjcaaGreatDoor
open Go.RowKit

def Holds (w : World) (g : Nat) (l : List UInt8) : Prop := ∃ f, HashAt w g (eat h0 l (l.length / 64)) f l.length ∧ RestOf f l

theorem bc_B (l : List UInt8) : bc l = l.map B := rfl
theorem hcs_lay (s : S8) (f : Nat → UInt8) (n r : Nat) (x : List UInt8) (h : r + x.length ≤ 64) :
    (hcs s f n).take (8 + r) ++ (bc x ++ (hcs s f n).drop (8 + r + x.length)) = hcs s (lay f r x) n := by
  unfold hcs
  rw [← lay_cells f r x 64 h, bc_B]
  have h1 : (arr 8 s.at ++ (brr 64 f ++ [Value.int .u64 (n : Int)])).take (8 + r) = arr 8 s.at ++ (brr 64 f).take r := by
    rw [List.take_append, arr_len, List.take_of_length_le (by rw [arr_len]; omega), List.take_append, brr_len]
    have e1 : 8 + r - 8 = r := by omega
    have e2 : r - 64 = 0 := by omega
    rw [e1, e2, List.take_zero, List.append_nil]
  have h2 : (arr 8 s.at ++ (brr 64 f ++ [Value.int .u64 (n : Int)])).drop (8 + r + x.length) = (brr 64 f).drop (r + x.length) ++ [Value.int .u64 (n : Int)] := by
    rw [List.drop_append, arr_len, List.drop_of_length_le (by rw [arr_len]; omega), List.nil_append, List.drop_append, brr_len]
    have e1 : 8 + r + x.length - 8 = r + x.length := by omega
    have e2 : r + x.length - 64 = 0 := by omega
    rw [e1, e2, List.drop_zero]
  rw [h1, h2]
  simp only [List.append_assoc]

theorem step_copy_at {P : Program} {w : World} {ops : Array Oper} {o : Oper} {a : Act} {K : Act → World → Prop} {Q : Exit → Act → World → Prop} {E : Prop} (hgd : o.guard = none) (d s : Operand) (dT sT : TypeId)
    (ho : o.op = .call { callee := .builtin .copy, args := #[d, s], argTypes := #[dT, sT] }) (e : TypeId) (hu : P.underlying dT = some (.slice e)) (hsz : (P.info? e).map (·.size) = some 1)
    (g off dLen dCap : Nat) (ad : Addr) (sLen sCap : Nat) (hd : a.eval d = .slice (some ⟨g, off, none⟩) dLen dCap) (hs : a.eval s = .slice (some ad) sLen sCap)
    (t : TypeId) (cur : List Value) (hr : Row w g t cur) (l : List UInt8) (hn : l.length = Nat.min sLen dLen)
    (hsrc : ∀ j v, (bc l)[j]? = some v → w.cell? (ad.add j) = some v) (hfit : off + l.length ≤ cur.length)
    (h : ∀ w', Row w' g t (cur.take off ++ (bc l ++ cur.drop (off + l.length))) → w.grownBy w' (some g) → Hid (w'.heap.size = w.heap.size) → K (a.put o.dst (goInt l.length)) w') :
    if Region.wanted o (yielded ops a.tmps) = true then Oper.wp P o a w K Q else E := by
  have hw : Region.wanted o (yielded ops a.tmps) = true := by simp [Region.wanted, hgd]
  rw [if_pos hw]
  have hrun := run_copy_row (P := P) w dT sT o.type e g off dLen dCap ad sLen sCap cur.toArray t (bc l) hu hsz hr (by rw [bc_len]; exact hn) hsrc (by rw [bc_len]; simpa using hfit) (bc_one l)
  rw [bc_len] at hrun
  unfold Oper.wp execOp
  simp only [ho, resolve, invoke, builtin, Sem.run_bind, Sem.run_pure, Result.andThen_ok, List.map_toArray, List.map_cons, List.map_nil, hd, hs, hrun]
  have hrow : Row (w.setRow g (cur.take off ++ (bc l ++ cur.drop (off + l.length))).toArray) g t (cur.take off ++ (bc l ++ cur.drop (off + l.length))) := setRow_heap w g _ _ t _ hr
  have := h _ hrow ⟨rfl, rfl, rfl, by simp, fun k hk hne => setRow_other w g k _ (fun e => hne (by rw [e]))⟩ (show _ = _ by simp)
  simpa [List.append_assoc, Oper.upon_value] using this

def Far (A : Option Addr) (g : Nat) : Prop := ∀ ad, A = some ad → ad.block ≠ g
theorem cut_hol (A : Option Addr) (c : Nat) (l : List UInt8) (n : Nat) (hn : n ≤ l.length) (hc : l.length ≤ c) :
    ∃ A' c', (∀ W : World, (Instr.slice 35 (.slice A l.length c) (some (.int .i64 n)) none none).run Tryz.prog W = .ok (.slice A' (l.drop n).length c') W) ∧ (l.drop n).length ≤ c' ∧ c' ≤ c ∧
      (∀ W, Hol W A l → Hol W A' (l.drop n)) ∧ ∀ g, Far A g → Far A' g := by
  refine ⟨if c = n then A else A.map (·.add n), c - n, fun W => ?_, by rw [List.length_drop]; omega, by omega, fun W h => Hol.cut h n hc, fun g hf ad h => ?_⟩
  · have h1 : (0 : Int) ≤ (n : Int) := by omega
    have h2 : (n : Int) ≤ (l.length : Int) := by omega
    rw [run_slice_l (P := Tryz.prog) W 35 A l.length c (by kernel_rfl) .i64 n h1 h2]
    have hs : (sizeOf (Tryz.prog.elem 35)).run Tryz.prog W = .ok 1 W := by kernel_rfl
    rw [hs]
    simp [Result.andThen, sliced, List.length_drop]
  · split at h
    · exact hf ad h
    · rcases A with _ | ad'
      · cases h
      · simp only [Option.map_some, Option.some.injEq] at h
        have := hf ad' rfl
        rw [← h]
        unfold Addr.add
        split <;> exact this

theorem Tabs.grown {w w' : World} {g : Nat} (h : Tabs w) (hg : w.grownBy w' (some g)) (h0 : g ≠ 0) (h1 : g ≠ 1) : Tabs w' :=
  ⟨fun j v hv => hg.cell (h.h j v hv) (fun e => by injection e with e; exact h0 e.symm), fun j v hv => hg.cell (h.k j v hv) (fun e => by injection e with e; exact h1 e.symm)⟩
theorem Hol.far {w w' : World} {A : Option Addr} {l : List UInt8} {g : Nat} (h : Hol w A l) (hf : Far A g) (hg : w.grownBy w' (some g)) : Hol w' A l :=
  Hol.grown h hg (fun g' off e => by subst e; intro e; injection e with e; exact hf _ rfl e)
theorem hcs_store (s r : S8) (f : Nat → UInt8) (n : Nat) : arr 8 r.at ++ (hcs s f n).drop 8 = hcs r f n := by
  unfold hcs
  rw [List.drop_left' (arr_len _ _)]
theorem store_words {P : Program} {w : World} {g : Nat} {s : S8} {f : Nat → UInt8} {n : Nat} (h : HashAt w g s f n) (r : S8) :
    ∃ w', (storeCells ⟨g, 0, none⟩ (arr 8 r.at)).run P w = .ok () w' ∧ HashAt w' g r f n ∧ w.grownBy w' (some g) := by
  have := run_storeCells_at P g 0 206 (arr 8 r.at) 0 (hcs s f n).toArray w h (by rw [arr_len]; simp [hcs_len]) (arr_one _ _)
  simp only [Nat.add_zero, Nat.zero_add, List.take_zero, List.nil_append, arr_len, hcs_store] at this
  exact ⟨_, this, setRow_heap w g _ _ _ _ h, ⟨rfl, rfl, rfl, by simp, fun k hk hne => setRow_other w g k _ (fun e => hne (by rw [e]))⟩⟩
theorem setCells_words {w : World} {g : Nat} {s : S8} {f : Nat → UInt8} {n : Nat} (h : HashAt w g s f n) (r : S8) :
    HashAt (w.setCells g 0 (arr 8 r.at)) g r f n ∧ w.grownBy (w.setCells g 0 (arr 8 r.at)) (some g) := by
  obtain ⟨w', h1, h2, h3⟩ := store_words (P := Tryz.prog) h r
  have h4 := run_storeCells_cells (P := Tryz.prog) g 0 (arr 8 r.at) 0 w (fun j hj => by rw [arr_len] at hj; exact (Row.is_there h 0 8 (by rw [hcs_len]; omega) j hj).1) (fun j hj => Row.free h _) (arr_one _ _)
  rw [h1] at h4
  simp only [Nat.add_zero, Result.ok.injEq, true_and] at h4
  rw [← h4]
  exact ⟨h2, h3⟩
def lenv : Value → Nat
  | .slice _ n _ => n
  | _ => 0
theorem holds_full {W : World} {g : Nat} {f : Nat → UInt8} {l y : List UInt8} (hr : RestOf f l) (h : l.length % 64 + y.length = 64)
    (hw : HashAt W g (cmp (eat h0 l (l.length / 64)) (lay f (l.length % 64) y)) (lay f (l.length % 64) y) (l.length + y.length)) : Holds W g (l ++ y) := by
  obtain ⟨h1, _, h2⟩ := rest_full h0 hr h
  refine ⟨_, ?_, h1⟩
  rw [h2, List.length_append]
  exact hw
theorem holds_part {W : World} {g : Nat} {f : Nat → UInt8} {l y : List UInt8} (hr : RestOf f l) (h : l.length % 64 + y.length < 64)
    (hw : HashAt W g (eat h0 l (l.length / 64)) (lay f (l.length % 64) y) (l.length + y.length)) : Holds W g (l ++ y) := by
  obtain ⟨h1, h2⟩ := rest_part hr h
  refine ⟨_, ?_, h1⟩
  rw [eat_part _ _ _ h2, List.length_append]
  exact hw
theorem add_next {w wr W : World} {g k c2 : Nat} {A' A2 : Option Addr} {b l x l1 y : List UInt8} (hk : k ≤ b.length) (HX : x = b.drop k) (HL : l1 = l ++ b.take k) (HY : y = x.take y.length) (hmx : y.length ≤ x.length)
    (hc2 : (x.drop y.length).length ≤ c2) (hH2 : ∀ W, Hol W A' x → Hol W A2 (x.drop y.length)) (hF' : Far A' g) (hF2 : ∀ g, Far A' g → Far A2 g) (hA' : Hol wr A' x) (hgr : w.grownBy wr (some g)) (hgW : wr.grownBy W (some g)) (hh : Holds W g (l1 ++ y)) :
    k + y.length ≤ b.length ∧ Value.slice A2 (x.length - y.length) c2 = .slice A2 (b.drop (k + y.length)).length c2 ∧ (b.drop (k + y.length)).length ≤ c2 ∧ Hol W A2 (b.drop (k + y.length)) ∧ Far A2 g ∧
      Holds W g (l ++ b.take (k + y.length)) ∧ w.grownBy W (some g) := by
  have hxl : x.length = b.length - k := by rw [HX, List.length_drop]
  have e1 : b.drop (k + y.length) = x.drop y.length := by rw [HX, List.drop_drop]
  have e2 : l ++ b.take (k + y.length) = l1 ++ y := by
    rw [List.take_add, ← HX, ← HY, HL, List.append_assoc]
  refine ⟨by omega, ?_, ?_, ?_, hF2 g hF', ?_, grown_trans hgr hgW⟩
  · rw [e1, List.length_drop]
  · rw [e1]; exact hc2
  · rw [e1]; exact hH2 W (Hol.far hA' hF' hgW)
  · rw [e2]; exact hh
theorem run_at_rest (w : World) (g r : Nat) (hr : r < 64) : (Instr.sliceAt 204 (.pointer (some ⟨g, 8, none⟩)) (some (.int .i64 r)) none none).run Tryz.prog w = .ok (.slice (some ⟨g, 8 + r, none⟩) (64 - r) (64 - r)) w := by
  have h1 : (0 : Int) ≤ (r : Int) := by omega
  have h2 : (r : Int) ≤ 64 := by omega
  have hne : ¬ (64 = r) := by omega
  simp [Instr.sliceAt, Instr.sureAddr, run_underlying Tryz.underlying204, Instr.sliceBounds, run_sliceBound, h1, h2, hne, Addr.add_mid]

set_option maxRecDepth 20000 in
set_option maxHeartbeats 1000000 in
theorem add_any (g : Nat) (A : Option Addr) (c : Nat) (l b : List UInt8) (w : World) (hH : Holds w g l) (hA : Hol w A b) (hF : Far A g) (hc : b.length ≤ c) (hlen : l.length + b.length ≤ 1125899906842624) (hT : Tabs w)
    (hg0 : g ≠ 0) (hg1 : g ≠ 1) :
    Calls Tryz.prog 123 #[.pointer (some ⟨g, 0, none⟩), .slice A b.length c] w fun e w' => e = .returned (.tuple #[]) ∧ Holds w' g (l ++ b) ∧ w.grownBy w' (some g) := by
  obtain ⟨i, UT⟩ := pd_table
  have is8 := Lib.hid (p := (Tryz.prog.info? 5).map (·.size) = some 1) (by kernel_rfl)
  have i42 := Lib.hid (p := (Tryz.prog.info? 203).map (·.size) = some 8) (by kernel_rfl)
  have i43 := Lib.hid (p := (Tryz.prog.info? 204).map (·.size) = some 64) (by kernel_rfl)
  have HT := Lib.hid hT
  clear hT
  go_enter Tryz.func123, Tryz.ntmps123
  go_wp2
  go_loopw [1] (fun v wr => ∃ (k : Nat) (A' : Option Addr) (c' : Nat), k ≤ b.length ∧ v = .slice A' (b.drop k).length c' ∧ (b.drop k).length ≤ c' ∧ Hol wr A' (b.drop k) ∧ Far A' g ∧ Holds wr g (l ++ b.take k) ∧ w.grownBy wr (some g)) (fun v _ => lenv v)
  case atStart => exact ⟨0, A, c, by omega, rfl, hc, hA, hF, by simpa using hH, ⟨rfl, rfl, rfl, Nat.le_refl _, fun _ _ _ => rfl⟩⟩
  case round =>
    obtain ⟨k, A', c', hk, rfl, hc', hA', hF', ⟨f, hrow, hrest⟩, hgr⟩ := hrel
    clear hA hF hc hH
    have hT1 := Lib.hid (HT.out.grown hgr hg0 hg1)
    obtain ⟨x, hx⟩ : ∃ x, x = b.drop k := ⟨_, rfl⟩
    obtain ⟨l1, hl1⟩ : ∃ l1, l1 = l ++ b.take k := ⟨_, rfl⟩
    rw [← hx] at hc' hA' ⊢
    rw [← hl1] at hrow hrest
    have hxl : x.length + k = b.length := by rw [hx, List.length_drop]; omega
    have hll : l1.length = l.length + k := by rw [hl1, List.length_append, List.length_take]; omega
    have HX := Lib.hid hx
    have HL := Lib.hid hl1
    clear hx hl1
    by_cases hpos : 0 < x.length
    · obtain ⟨r, hr⟩ : ∃ r, r = l1.length % 64 := ⟨_, rfl⟩
      obtain ⟨m, hm⟩ : ∃ m, m = Nat.min x.length (64 - r) := ⟨_, rfl⟩
      have hr64 : r < 64 := by omega
      have hmx : m ≤ x.length := by rw [hm]; exact Nat.min_le_left _ _
      have hmr : r + m ≤ 64 := by
        have : m ≤ 64 - r := by rw [hm]; exact Nat.min_le_right _ _
        omega
      have hm0 : 0 < m := by
        have hm' : m = min x.length (64 - r) := hm
        omega
      obtain ⟨A2, c2, hcut, hc2, _, hH2, hF2⟩ := cut_hol A' c' x m hmx hc'
      have hsl := fun w => run_at_rest w g r hr64
      obtain ⟨ga, off, rfl, hga, hcells⟩ := Hol.some_ hA' hpos
      obtain ⟨y, hy⟩ : ∃ y, y = x.take m := ⟨_, rfl⟩
      have hyl : y.length = m := by rw [hy, List.length_take]; omega
      have n1 := Lib.hid (p := y.length = Nat.min x.length (64 - r)) (by rw [hyl, hm])
      have n2 := Lib.hid (p := ∀ j v, (bc y)[j]? = some v → wr.drew.cell? ((⟨ga, off, none⟩ : Addr).add j) = some v) (by
        intro j v hv
        obtain ⟨u, hu, rfl⟩ := bc_get hv
        rw [hy, List.getElem?_take] at hu
        split at hu
        · have := hcells j u hu
          rw [Addr.add_mid]
          exact this
        · cases hu)
      have n3 := Lib.hid (p := 8 + r + y.length ≤ (hcs (eat h0 l1 (l1.length / 64)) f l1.length).length) (by rw [hcs_len]; omega)
      have hR := Lib.hid hr
      have hgr' := Lib.hid hgr
      have hA'' := Lib.hid hA'
      have hF'' := Lib.hid hF'
      have hH2' := Lib.hid hH2
      have hF2' := Lib.hid hF2
      have hc2' := Lib.hid hc2
      clear hm hgr hH2 hF2 hc2
      subst hyl
      have HY := Lib.hid hy
      clear hy hcells
      have HLL := Lib.hid hll
      have hl50 : l1.length ≤ 1125899906842624 := by omega
      clear hr hll
      go_wp2
      go_region_law (first
        | (refine step_copy_at rfl (.tmp 15) (.tmp 16) 35 35 rfl 5 UT.ht is8 g (8 + r) (64 - r) (64 - r) ⟨ga, off, none⟩ x.length c' (by rfl) (by rfl) 206 _ hrow.drew y n1 n2 n3 ?_; intro w2 hr2 hg2 hs2)
        | (go_simp; go_at_call 155; refine (held_any g _ f _ _ hrow.drew (by omega)).mono ?_; rintro e w' ⟨he, rfl⟩; rw [← hR.out] at he; subst he))
      all_goals
        rw [hcs_lay _ _ _ _ _ hmr] at hr2
        have hcc := HashAt.count hr2
        have hcf := Row.free hr2 72
        have hr3 : HashAt (w2.setCell ⟨g, 72, none⟩ (.int .u64 ((l1.length : Int) + y.length))) g (eat h0 l1 (l1.length / 64)) (lay f r y) (l1.length + y.length) := by
          have := Row.put hr2 72 (.int .u64 ((l1.length + y.length : Nat) : Int))
          rw [hcs_set] at this
          exact this
        have hg3 : wr.grownBy (w2.setCell ⟨g, 72, none⟩ (.int .u64 ((l1.length : Int) + y.length))) (some g) := grown_trans (show wr.grownBy w2 (some g) from ⟨hg2.os, hg2.tape, hg2.output, hg2.size, hg2.block⟩) (grown_set w2 ⟨g, 72, none⟩ _)
        have hr3' := Lib.hid hr3
        have hg3' := Lib.hid hg3
        clear hr3 hg3 hr2 hg2 hs2 hrow n1 n2 n3
        by_cases hful : r + y.length = 64
        · have hz : (l1.length + y.length) % 64 = 0 := by have := hR.out; omega
          go_wp2_with (first
            | (go_at_call 155; refine (held_any g _ (lay f r y) (l1.length + y.length) _ hr3'.out (by omega)).mono ?_; rintro e w' ⟨he, rfl⟩; rw [hz] at he; subst he))
          obtain ⟨w3, hw3⟩ : ∃ w3, w3 = w2.setCell ⟨g, 72, none⟩ (.int .u64 ((l1.length : Int) + y.length)) := ⟨_, rfl⟩
          have hr4 : HashAt w3.drew g (eat h0 l1 (l1.length / 64)) (lay f r y) (l1.length + y.length) := by rw [hw3]; exact Row.drew hr3'.out
          have hg4 : wr.grownBy w3.drew (some g) := by rw [hw3]; exact ⟨hg3'.out.os, hg3'.out.tape, hg3'.out.output, hg3'.out.size, hg3'.out.block⟩
          rw [← hw3]
          have hT4 : Tabs w3.drew := hT1.out.grown hg4 hg0 hg1
          clear hw3 hr3' hg3' hcc hcf
          obtain ⟨s1, hs1⟩ : ∃ s1, s1 = eat h0 l1 (l1.length / 64) := ⟨_, rfl⟩
          obtain ⟨f1, hf1⟩ : ∃ f1, f1 = lay f r y := ⟨_, rfl⟩
          rw [← hs1, ← hf1] at hr4
          have HS1 := Lib.hid hs1
          have HF1 := Lib.hid hf1
          clear hs1 hf1
          have i42' : (Tryz.prog.info? 203).map (·.size) = some (arr 8 s1.at).length := by rw [arr_len]; exact i42
          have i43' : (Tryz.prog.info? 204).map (·.size) = some (brr 64 f1).length := by rw [brr_len]; exact i43
          have hr4' := Lib.hid hr4
          have hT4' := Lib.hid hT4
          have hg4' := Lib.hid hg4
          clear hr4 hT4 hg4
          refine wp_region_any (by kernel_rfl) ?_
          change wpAny _ _ _ _ _ _ _ w3.drew
          refine wpAny_take (i := 0) (oi := ⟨some 33, .move (.tmp 0), _, _, _, none⟩) (v := (.pointer (some ⟨g, 0, none⟩))) rfl (by kernel_rfl) (by kernel_rfl) (by kernel_rfl) (fun _ _ _ h => h) (.inl ⟨by rfl, fun w => by go_simp⟩) ?_
          simp only [Act.put, List.setIfInBounds_toArray, List.set_cons_zero, List.set_cons_succ]
          refine wpAny_take (i := 1) (oi := ⟨some 34, .move (.tmp 0), _, _, _, none⟩) (v := (.pointer (some ⟨g, 0, none⟩))) rfl (by kernel_rfl) (by kernel_rfl) (by kernel_rfl) (fun _ _ _ h => h) (.inl ⟨by rfl, fun w => by go_simp⟩) ?_
          simp only [Act.put, List.setIfInBounds_toArray, List.set_cons_zero, List.set_cons_succ]
          refine wpAny_take (i := 5) (oi := ⟨some 38, .move (.tmp 0), _, _, _, none⟩) (v := (.pointer (some ⟨g, 0, none⟩))) rfl (by kernel_rfl) (by kernel_rfl) (by kernel_rfl) (fun _ _ _ h => h) (.inl ⟨by rfl, fun w => by go_simp⟩) ?_
          simp only [Act.put, List.setIfInBounds_toArray, List.set_cons_zero, List.set_cons_succ]
          refine wpAny_take (i := 2) (oi := ⟨some 35, .nilCheck (.tmp 34), _, _, _, none⟩) (v := (.pointer (some ⟨g, 0, none⟩))) rfl (by kernel_rfl) (by kernel_rfl) (by kernel_rfl) (fun _ _ _ h => h) (.inl ⟨by rfl, fun w => by go_simp⟩) ?_
          simp only [Act.put, List.setIfInBounds_toArray, List.set_cons_zero, List.set_cons_succ]
          refine wpAny_take (i := 6) (oi := ⟨some 39, .nilCheck (.tmp 38), _, _, _, none⟩) (v := (.pointer (some ⟨g, 0, none⟩))) rfl (by kernel_rfl) (by kernel_rfl) (by kernel_rfl) (fun _ _ _ h => h) (.inl ⟨by rfl, fun w => by go_simp⟩) ?_
          simp only [Act.put, List.setIfInBounds_toArray, List.set_cons_zero, List.set_cons_succ]
          refine wpAny_take (i := 3) (oi := ⟨some 36, .fieldAddr 206 (.tmp 35) 0, _, _, _, none⟩) (v := (.pointer (some ⟨g, 0, none⟩))) rfl (by kernel_rfl) (by kernel_rfl) (by kernel_rfl) (fun _ _ _ h => h) (.inl ⟨by rfl, fun w => by go_simp⟩) ?_
          simp only [Act.put, List.setIfInBounds_toArray, List.set_cons_zero, List.set_cons_succ]
          refine wpAny_take (i := 7) (oi := ⟨some 40, .fieldAddr 206 (.tmp 39) 1, _, _, _, none⟩) (v := (.pointer (some ⟨g, 8, none⟩))) rfl (by kernel_rfl) (by kernel_rfl) (by kernel_rfl) (fun _ _ _ h => h) (.inl ⟨by rfl, fun w => by go_simp⟩) ?_
          simp only [Act.put, List.setIfInBounds_toArray, List.set_cons_zero, List.set_cons_succ]
          refine wpAny_ready (rs := [4, 8]) (by kernel_rfl) (by simp) ?_
          refine AllReady.cons (o := ⟨some 37, .load 203 (.tmp 36), _, _, _, none⟩) rfl (fun K hK => ?_) (AllReady.cons (o := ⟨some 41, .load 204 (.tmp 40), _, _, _, none⟩) rfl (fun K hK => ?_) AllReady.nil)
          · rw [if_pos (by rfl)]
            refine wp_load_mid 203 (.tmp 36) rfl g 0 (by rfl) (arr 8 s1.at) _ (HashAt.words hr4'.out) Tryz.underlying203 rfl i42' ?_
            refine hK _ _ ?_
            clear hK K
            simp only [Act.put, List.setIfInBounds_toArray, List.set_cons_zero, List.set_cons_succ]
            refine wpAny_ready (rs := [8]) (by kernel_rfl) (by simp) ?_
            refine AllReady.cons (o := ⟨some 41, .load 204 (.tmp 40), _, _, _, none⟩) rfl (fun K hK => ?_) AllReady.nil
            rw [if_pos (by rfl)]
            refine wp_load_mid 204 (.tmp 40) rfl g 8 (by rfl) (brr 64 f1) _ (HashAt.rest hr4'.out) Tryz.underlying204 rfl i43' ?_
            refine hK _ _ ?_
            clear hK K
            simp only [Act.put, List.setIfInBounds_toArray, List.set_cons_zero, List.set_cons_succ]
            refine wpAny_ready (rs := [9]) (by kernel_rfl) (by simp) ?_
            refine AllReady.cons (o := ⟨some 42, .call ⟨.value (.func 156), #[.tmp 37, .tmp 41], _⟩, _, _, _, none⟩) rfl (fun K hK => ?_) AllReady.nil
            rw [if_pos (by rfl)]
            go_simp
            refine (change_any s1 f1 _ ?_).mono ?_
            · exact hT4'.out
            rintro e w5 ⟨rfl, hb5⟩
            refine hK _ _ ?_
            clear hK K
            obtain ⟨hr6, hg6⟩ := setCells_words (Row.kept hr4'.out hb5) (cmp s1 f1)
            have ht5 := Row.is_there (Row.kept hr4'.out hb5) 0 8 (by rw [hcs_len]; omega)
            refine wpAny_take (i := 10) (oi := ⟨some 43, .nilCheck (.tmp 33), _, _, _, none⟩) (v := (.pointer (some ⟨g, 0, none⟩))) rfl (by kernel_rfl) (by kernel_rfl) (by kernel_rfl) (fun _ _ _ h => h) (.inl ⟨by rfl, fun w => by go_simp⟩) ?_
            simp only [Act.put, List.setIfInBounds_toArray, List.set_cons_zero, List.set_cons_succ]
            refine wpAny_take (i := 11) (oi := ⟨some 44, .fieldAddr 206 (.tmp 43) 0, _, _, _, none⟩) (v := (.pointer (some ⟨g, 0, none⟩))) rfl (by kernel_rfl) (by kernel_rfl) (by kernel_rfl) (fun _ _ _ h => h) (.inl ⟨by rfl, fun w => by go_simp⟩) ?_
            simp only [Act.put, List.setIfInBounds_toArray, List.set_cons_zero, List.set_cons_succ]
            refine wpAny_ready (rs := [12]) (by kernel_rfl) (by simp) ?_
            refine AllReady.cons (o := ⟨none, .store 203 (.tmp 44) (.tmp 42), _, _, _, none⟩) rfl (fun K hK => ?_) AllReady.nil
            rw [if_pos (by rfl)]
            refine wp_store_mid 203 (.tmp 44) (.tmp 42) rfl g 0 (arr 8 (cmp s1 f1).at).toArray (by rfl) (by rfl) (by simpa [arr_len] using ht5) (by simpa [arr_len] using i42.out) (all_oneCell_toArray (arr_one _ _)) ?_
            refine hK _ _ ?_
            clear hK K
            refine wpAny_done (by kernel_rfl) ?_ _
            simp only [Act.put]
            have hW : Holds (w5.setCells g 0 (arr 8 (cmp s1 f1).at)) g (l1 ++ y) := by
              rw [HS1.out, HF1.out, hR.out] at hr6 ⊢
              exact holds_full hrest (by have := hR.out; omega) hr6
            have hg7 : wr.grownBy (w5.setCells g 0 (arr 8 (cmp s1 f1).at)) (some g) := grown_trans (grown_trans hg4'.out (grown_of_below hb5)) hg6
            have hnext := Lib.hid (add_next hk HX.out HL.out HY.out hmx hc2'.out hH2'.out hF''.out hF2'.out hA''.out hgr'.out hg7 hW)
            generalize w5.setCells g 0 (arr 8 (cmp s1 f1).at) = w7 at hnext ⊢
            go_wp2
            go_roundw
            case rel => exact ⟨k + y.length, A2, c2, hnext.out⟩
            case measure => simp [lenv]; omega
          · rw [if_pos (by rfl)]
            refine wp_load_mid 204 (.tmp 40) rfl g 8 (by rfl) (brr 64 f1) _ (HashAt.rest hr4'.out) Tryz.underlying204 rfl i43' ?_
            refine hK _ _ ?_
            clear hK K
            simp only [Act.put, List.setIfInBounds_toArray, List.set_cons_zero, List.set_cons_succ]
            refine wpAny_ready (rs := [4]) (by kernel_rfl) (by simp) ?_
            refine AllReady.cons (o := ⟨some 37, .load 203 (.tmp 36), _, _, _, none⟩) rfl (fun K hK => ?_) AllReady.nil
            rw [if_pos (by rfl)]
            refine wp_load_mid 203 (.tmp 36) rfl g 0 (by rfl) (arr 8 s1.at) _ (HashAt.words hr4'.out) Tryz.underlying203 rfl i42' ?_
            refine hK _ _ ?_
            clear hK K
            simp only [Act.put, List.setIfInBounds_toArray, List.set_cons_zero, List.set_cons_succ]
            refine wpAny_ready (rs := [9]) (by kernel_rfl) (by simp) ?_
            refine AllReady.cons (o := ⟨some 42, .call ⟨.value (.func 156), #[.tmp 37, .tmp 41], _⟩, _, _, _, none⟩) rfl (fun K hK => ?_) AllReady.nil
            rw [if_pos (by rfl)]
            go_simp
            refine (change_any s1 f1 _ ?_).mono ?_
            · exact hT4'.out
            rintro e w5 ⟨rfl, hb5⟩
            refine hK _ _ ?_
            clear hK K
            obtain ⟨hr6, hg6⟩ := setCells_words (Row.kept hr4'.out hb5) (cmp s1 f1)
            have ht5 := Row.is_there (Row.kept hr4'.out hb5) 0 8 (by rw [hcs_len]; omega)
            refine wpAny_take (i := 10) (oi := ⟨some 43, .nilCheck (.tmp 33), _, _, _, none⟩) (v := (.pointer (some ⟨g, 0, none⟩))) rfl (by kernel_rfl) (by kernel_rfl) (by kernel_rfl) (fun _ _ _ h => h) (.inl ⟨by rfl, fun w => by go_simp⟩) ?_
            simp only [Act.put, List.setIfInBounds_toArray, List.set_cons_zero, List.set_cons_succ]
            refine wpAny_take (i := 11) (oi := ⟨some 44, .fieldAddr 206 (.tmp 43) 0, _, _, _, none⟩) (v := (.pointer (some ⟨g, 0, none⟩))) rfl (by kernel_rfl) (by kernel_rfl) (by kernel_rfl) (fun _ _ _ h => h) (.inl ⟨by rfl, fun w => by go_simp⟩) ?_
            simp only [Act.put, List.setIfInBounds_toArray, List.set_cons_zero, List.set_cons_succ]
            refine wpAny_ready (rs := [12]) (by kernel_rfl) (by simp) ?_
            refine AllReady.cons (o := ⟨none, .store 203 (.tmp 44) (.tmp 42), _, _, _, none⟩) rfl (fun K hK => ?_) AllReady.nil
            rw [if_pos (by rfl)]
            refine wp_store_mid 203 (.tmp 44) (.tmp 42) rfl g 0 (arr 8 (cmp s1 f1).at).toArray (by rfl) (by rfl) (by simpa [arr_len] using ht5) (by simpa [arr_len] using i42.out) (all_oneCell_toArray (arr_one _ _)) ?_
            refine hK _ _ ?_
            clear hK K
            refine wpAny_done (by kernel_rfl) ?_ _
            simp only [Act.put]
            have hW : Holds (w5.setCells g 0 (arr 8 (cmp s1 f1).at)) g (l1 ++ y) := by
              rw [HS1.out, HF1.out, hR.out] at hr6 ⊢
              exact holds_full hrest (by have := hR.out; omega) hr6
            have hg7 : wr.grownBy (w5.setCells g 0 (arr 8 (cmp s1 f1).at)) (some g) := grown_trans (grown_trans hg4'.out (grown_of_below hb5)) hg6
            have hnext := Lib.hid (add_next hk HX.out HL.out HY.out hmx hc2'.out hH2'.out hF''.out hF2'.out hA''.out hgr'.out hg7 hW)
            generalize w5.setCells g 0 (arr 8 (cmp s1 f1).at) = w7 at hnext ⊢
            go_wp2
            go_roundw
            case rel => exact ⟨k + y.length, A2, c2, hnext.out⟩
            case measure => simp [lenv]; omega
        · obtain ⟨q, hq⟩ : ∃ q, q = (l1.length + y.length) % 64 := ⟨_, rfl⟩
          have hq0 : (q : Int) ≠ 0 := by have := hR.out; omega
          have hqb : ((q : Int) == 0) = false := by simpa using hq0
          have HQ := Lib.hid hq
          clear hq hq0
          have hW : Holds (w2.setCell ⟨g, 72, none⟩ (.int .u64 ((l1.length : Int) + y.length))) g (l1 ++ y) := by
            have h := hr3'.out
            rw [hR.out] at h
            exact holds_part hrest (by have := hR.out; omega) h
          have hnext := Lib.hid (add_next hk HX.out HL.out HY.out hmx hc2'.out hH2'.out hF''.out hF2'.out hA''.out hgr'.out hg3'.out hW)
          clear hW
          go_wp2_with (first
            | (go_at_call 155; refine (held_any g _ (lay f r y) (l1.length + y.length) _ hr3'.out (by omega)).mono ?_; rintro e w' ⟨he, rfl⟩; rw [← HQ.out] at he; subst he))
          go_roundw
          case rel => exact ⟨k + y.length, A2, c2, hnext.out⟩
          case measure => simp [lenv]; omega
    · obtain rfl : x = [] := List.eq_nil_of_length_eq_zero (by omega)
      have hkb : k = b.length := by simpa using hxl
      have hfin : Holds wr g (l ++ b) := by
        refine ⟨f, ?_, ?_⟩
        · have e : l ++ b = l1 := by rw [HL.out, hkb, List.take_length]
          rw [e]
          exact hrow
        · have e : l ++ b = l1 := by rw [HL.out, hkb, List.take_length]
          rw [e]
          exact hrest
      go_wp2
      go_end0
      exact ⟨rfl, hfin, hgr⟩
end Go.Proofs.YtpocccnhibjjcaaGreatDoor
/- Eight words as bytes: for all words. -/
set_option linter.unusedVariables false
set_option maxRecDepth 20000
namespace Go.Proofs.YtpocccnhibjjcaaGreatDoor
open Go.RowKit

def dig (s : S8) (i : Nat) : UInt8 := (shr (s.at (i / 4)) (8 * (3 - i % 4))).toUInt8
def dft (s : S8) (k j : Nat) : UInt8 := if j < k then dig s j else 0
theorem dft_zero (s : S8) : dft s 0 = fun _ => 0 := by
  funext j
  exact if_neg (by omega)
theorem dft_step (s : S8) (k : Nat) : upd (dft s k) k (dig s k) = dft s (k + 1) := by
  funext j
  unfold upd dft
  by_cases h : j = k
  · subst h
    simp
  · rw [if_neg h]
    by_cases h2 : j < k
    · rw [if_pos h2, if_pos (by omega)]
    · rw [if_neg h2, if_neg (by omega)]
theorem dft_full (s : S8) : brr 32 (dft s 32) = brr 32 (dig s) := brr_congr fun j hj => if_pos hj
theorem shr_zero (x : UInt32) : shr x 0 = x := by
  unfold shr
  simp
theorem zero_sum (w : World) : (zeroValue 85).run Tryz.prog w = .ok (.agg (brr 32 (fun _ => 0)).toArray) w := by kernel_rfl

theorem together_any (s : S8) (w : World) : Calls Tryz.prog 159 #[.agg (arr 8 s.at).toArray] w fun e w' => e = .returned (.agg (brr 32 (dig s)).toArray) ∧ Below w.heap.size w w' := by
  have i27 := Lib.hid (p := (Tryz.prog.info? 85).map (·.size) = some 32) (by kernel_rfl)
  have hz := Lib.hid zero_sum
  go_enter Tryz.func159, Tryz.ntmps159
  go_wp2_with (first
    | (refine step_box rfl 1 rfl 203 _ rfl (arr 8 s.at) rfl ?_; intro g1 w1 hr1 hg1 hb1 hs1)
    | (refine step_alloc rfl 2 rfl 85 rfl _ hz ?_; intro g2 w2 hr2 hg2 hb2 hs2)
    | (refine step_alloc rfl 3 rfl 85 rfl _ hz ?_; intro g3 w3 hr3 hg3 hb3 hs3))
  have hb : Below w.heap.size w w3 := (hb1.trans (hb2.mono hb1.size)).trans (hb3.mono (Nat.le_trans hb1.size hb2.size))
  have q2 : w.heap.size ≤ g2 := by rw [hg2.out]; exact hb1.size
  have q3 : w.heap.size ≤ g3 := by rw [hg3.out]; exact Nat.le_trans hb1.size hb2.size
  have q23 : g2 ≠ g3 := by have := hg2.out; have := hg3.out; have := hs2.out; omega
  have q13 : g1 ≠ g3 := by have := hg1.out; have := hg3.out; have := hs2.out; have := hs1.out; omega
  have r1 := (hr1.kept hb2).kept hb3
  have r2 := hr2.kept hb3
  clear hr1 hr2 hb1 hb2 hb3 hg1 hg2 hg3 hs1 hs2 hs3 hz
  go_loopw [5] (fun i wr => ∃ k : Nat, k ≤ 32 ∧ i = .int .i64 k ∧ Row wr g1 203 (arr 8 s.at) ∧ Row wr g2 85 (brr 32 (fun _ => 0)) ∧ Row wr g3 85 (brr 32 (dft s k)) ∧ Below w.heap.size w wr) (fun i _ => 32 - (intOf i).toNat)
  case atStart => exact ⟨0, by omega, rfl, r1, r2, by rw [dft_zero]; exact hr3, hb⟩
  case round =>
    obtain ⟨k, hk, rfl, p1, p2, p3, pb⟩ := hrel
    clear r1 r2 hr3 hb
    by_cases hlt : k < 32
    · have c1 : wr.cell? ⟨g1, k / 4, none⟩ = some (U (s.at (k / 4))) := by rw [p1.cell, arr_get _ (by omega)]
      have c3 := p3.cell k
      rw [brr_get _ hlt] at c3
      have cf := p3.free k
      have hD : Hid (dig s k = (shr (s.at (k / 4)) (8 * (3 - k % 4))).toUInt8) := show _ = _ from rfl
      have fin : ∀ wz : World, wz = wr.setCell ⟨g3, k, none⟩ (B (dig s k)) → Row wz g1 203 (arr 8 s.at) ∧ Row wz g2 85 (brr 32 (fun _ => 0)) ∧ Row wz g3 85 (brr 32 (dft s (k + 1))) ∧ Below w.heap.size w wz := by
        rintro wz rfl
        exact ⟨p1.far q13 _, p2.far q23 _, by rw [← dft_step s k, ← brr_set]; exact p3.put _ _, pb.setCell q3 _⟩
      have h4 : k % 4 = 0 ∨ k % 4 = 1 ∨ k % 4 = 2 ∨ k % 4 = 3 := by omega
      rcases h4 with h4 | h4 | h4 | h4
      all_goals
        rw [h4] at hD
        have hI : (k : Int) % 4 = ((k % 4 : Nat) : Int) := by omega
        rw [h4] at hI
        clear h4
        go_wp2
        go_roundw
        case rel => exact ⟨k + 1, by omega, by go_num, fin _ (by first | (rw [hD.out]; done) | (rw [hD.out, shr_zero]; done))⟩
        case measure => simp [intOf]; omega
    · obtain rfl : k = 32 := by omega
      go_wp2_with (first
        | (refine step_load rfl 21 rfl 85 _ rfl _ rfl (brr 32 (dft s 32)) _ p3.all Tryz.underlying85 rfl (by rw [brr_len]; exact i27) ?_)
        | (refine step_store rfl 85 _ _ rfl g2 rfl _ (brr 32 (fun _ => 0)) (brr 32 (dft s 32)) rfl p2 (by rw [brr_len, brr_len]) (by rw [brr_len]; exact i27) (brr_one _ _) ?_; intro w5 hr5 hg5 hs5))
      refine bodyPost_ret (results_cell_row rfl _ _ g2 _ _ _ _ rfl hr5 Tryz.underlying85 rfl (by simpa [brr_len] using i27.out)) rfl ?_
      exact ⟨by rw [dft_full], pb.grown hg5 pb.size (fun k hk => by injection hk with hk; omega)⟩
end Go.Proofs.YtpocccnhibjjcaaGreatDoor
/- A hash's digest, and that of bytes: for all bytes up to 2^49. Condition: the listed tables. -/
set_option linter.unusedVariables false
namespace Go.Proofs.YtpocccnhibjjcaaGreatDoor
open Go.RowKit

def shaF (l : List UInt8) : Nat → UInt8 := dig (eat h0 (l ++ padB l.length) ((l ++ padB l.length).length / 64))
def z8 : S8 := ⟨0, 0, 0, 0, 0, 0, 0, 0⟩
theorem zero_hash (w : World) : (zeroValue 206).run Tryz.prog w = .ok (.agg (hcs z8 (fun _ => 0) 0).toArray) w := by kernel_rfl
theorem Tabs.ne0 {w : World} (h : Tabs w) {g : Nat} (hg : w.heap.size ≤ g) : g ≠ 0 ∧ g ≠ 1 := by
  have h1 := World.block_lt_of_cell? w _ (h.h 0 _ (arr_get h0.at (by omega)))
  have h2 := World.block_lt_of_cell? w _ (h.k 0 _ (arr_get kk (by omega)))
  exact ⟨fun e => by subst e; simp at h1; omega, fun e => by subst e; simp at h2; omega⟩

set_option maxRecDepth 20000 in
set_option maxHeartbeats 1000000 in
theorem sum_any (g : Nat) (l : List UInt8) (w : World) (hH : Holds w g l) (hlen : l.length ≤ 562949953421312) (hT : Tabs w) :
    Calls Tryz.prog 125 #[.pointer (some ⟨g, 0, none⟩)] w fun e w' => e = .returned (.agg (brr 32 (shaF l)).toArray) ∧ Below w.heap.size w w' := by
  obtain ⟨f, hrow, hrest⟩ := hH
  have i27 := Lib.hid (p := (Tryz.prog.info? 85).map (·.size) = some 32) (by kernel_rfl)
  have i42 := Lib.hid (p := (Tryz.prog.info? 203).map (·.size) = some 8) (by kernel_rfl)
  have i45 := Lib.hid (p := (Tryz.prog.info? 206).map (·.size) = some 73) (by kernel_rfl)
  have hz := Lib.hid zero_sum
  have hz5 := Lib.hid zero_hash
  obtain ⟨s, hs⟩ : ∃ s, s = eat h0 l (l.length / 64) := ⟨_, rfl⟩
  rw [← hs] at hrow
  have HS := Lib.hid hs
  clear hs
  have HT := Lib.hid hT
  clear hT
  go_enter Tryz.func125, Tryz.ntmps125
  go_wp2_with (first
    | (refine step_alloc rfl 2 rfl 85 rfl _ hz ?_; intro g2 w2 hr2 hg2 hb2 hs2)
    | (refine step_load rfl 10 rfl 206 (.tmp 9) rfl g (by rfl) (hcs s f l.length) _ (Row.kept hrow hb2).all Tryz.underlying206 rfl (by rw [hcs_len]; exact i45) ?_)
    | (refine step_alloc rfl 3 rfl 206 rfl _ hz5 ?_; intro g3 w3 hr3 hg3 hb3 hs3)
    | (refine step_store rfl 206 (.tmp 3) (.tmp 10) rfl g3 (by rfl) _ (hcs z8 (fun _ => 0) 0) (hcs s f l.length) (by rfl) hr3 (by rw [hcs_len, hcs_len]) (by rw [hcs_len]; exact i45) (hcs_one _ _ _) ?_; intro w4 hr4 hg4 hs4; have hrg := HashAt.count (Row.grown ((Row.kept hrow hb2).kept hb3) hg4 (by have := Row.lt (Row.kept hrow hb2); have := hg3.out; intro e; injection e with e; omega)))
    | (go_at_call 158; refine (padding_any l.length (by omega) _).mono ?_; rintro e w5 ⟨v, rfl, hown, hb5⟩; have hlt := Lib.hid hown.lt; obtain ⟨hn, A, c, rfl, hc1, hc2, hHol⟩ := own_form hown; clear hn hc2; have hHol' := Lib.hid hHol; clear hHol))
  have hg34 : g3 < w4.heap.size := Row.lt hr4
  have hFar : Far A g3 := by
    intro ad e
    have := (hlt.out ad.block (by rw [e]; rfl)).1
    omega
  have hq2 : g2 = w.heap.size := hg2.out
  have hq3 : g3 = w2.heap.size := hg3.out
  have hs2' := hs2.out
  have hb3' : Below w.heap.size w w3 := hb2.trans (hb3.mono hb2.size)
  have hb4' : Below w.heap.size w w4 := hb3'.grown hg4 hb3'.size (fun k hk => by injection hk with hk; omega)
  have hb5' : Below w.heap.size w w5 := hb4'.trans (hb5.mono hb4'.size)
  have r2 : Row w5 g2 85 (brr 32 (fun _ => 0)) := ((Row.kept hr2 hb3).grown hg4 (fun e => by injection e with e; omega)).kept hb5
  have r3 : Holds w5 g3 l := ⟨f, by rw [HS.out] at hr4; exact Row.kept hr4 hb5, hrest⟩
  have hT5 : Tabs w5 := HT.out.below hb5'
  have hne := HT.out.ne0 (show w.heap.size ≤ g3 by omega)
  have hpl := padB_len l.length
  have hz64 := zer_lt l.length
  have hb5l : w4.heap.size ≤ w5.heap.size := hb5.size
  have q2 : w.heap.size ≤ g2 := by omega
  have q3 : w.heap.size ≤ g3 := by omega
  have n23 : g2 ≠ g3 := by omega
  have hown' := Lib.hid hown
  clear hown hr2 hg2 hb2 hs2 hr3 hg3 hb3 hs3 hr4 hg4 hs4 hb3' hb4' hb5 hlt hq2 hq3 hs2'
  refine (add_any g3 A c l (padB l.length) w5 r3 hHol'.out hFar hc1 (by omega) hT5 hne.1 hne.2).mono ?_
  rintro e w6 ⟨rfl, ⟨f6, hr6, hrest6⟩, hg6⟩
  have hb6 : Below w.heap.size w w6 := hb5'.grown hg6 hb5'.size (fun k hk => by injection hk with hk; omega)
  have r2' : Row w6 g2 85 (brr 32 (fun _ => 0)) := r2.grown hg6 (fun e => by injection e with e; omega)
  obtain ⟨s6, hs6⟩ : ∃ s6, s6 = eat h0 (l ++ padB l.length) ((l ++ padB l.length).length / 64) := ⟨_, rfl⟩
  rw [← hs6] at hr6
  have HS6 := Lib.hid hs6
  clear hs6 r2 r3 hT5 hg6 hpl hz64 hrest6 hown' hb5'
  go_wp2_with (first
    | (refine wpList_load_mid rfl 203 (.tmp 17) rfl g3 0 (by rfl) (arr 8 s6.at) _ (HashAt.words hr6) Tryz.underlying203 rfl (by rw [arr_len]; exact i42) ?_)
    | (go_at_call 159; refine (together_any s6 _).mono ?_; rintro e w7 ⟨rfl, hb7⟩)
    | (refine step_store rfl 85 (.tmp 2) (.tmp 19) rfl g2 (by rfl) _ (brr 32 (fun _ => 0)) (brr 32 (dig s6)) (by rfl) (Row.kept r2' hb7) (by rw [brr_len, brr_len]) (by rw [brr_len]; exact i27) (brr_one _ _) ?_; intro w8 hr8 hg8 hs8))
  refine bodyPost_ret (results_cell_row rfl _ _ g2 _ _ _ _ rfl hr8 Tryz.underlying85 rfl (by simpa [brr_len] using i27.out)) rfl ?_
  have hb7' : Below w.heap.size w w7 := hb6.trans (hb7.mono hb6.size)
  exact ⟨by rw [HS6.out]; rfl, hb7'.grown hg8 hb7'.size (fun k hk => by injection hk with hk; omega)⟩

theorem holds_new {w : World} {g : Nat} (h : HashAt w g h0 (fun _ => 0) 0) : Holds w g [] := ⟨_, h, rest_nil _⟩
end Go.Proofs.YtpocccnhibjjcaaGreatDoor
