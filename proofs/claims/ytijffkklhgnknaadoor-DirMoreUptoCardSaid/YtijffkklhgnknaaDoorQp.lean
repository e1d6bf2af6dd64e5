/- Entries kept: those behind a cookie, those of other names. Conditions: the closure's variable lies there; the row is no longer than a million. -/
import Derived.Test.YtijffkklhgnknaaDoorQo
set_option linter.unusedVariables false
set_option maxRecDepth 20000
namespace Go.Proofs.YtijffkklhgnknaaDoor
open Go.RowKit

theorem foldl_sets (off : Nat) : ∀ (vs : List Value) (k : Nat) (L : List Value), (vs.zipIdx k).foldl (fun (cs : Array Value) (x : Value × Nat) => cs.setIfInBounds (off + x.2) x.1) L.toArray = (setL L (off + k) vs).toArray
  | [], _, _ => rfl
  | v :: r, k, L => by
    rw [List.zipIdx_cons, List.foldl_cons]
    simp only [List.setIfInBounds_toArray]
    rw [foldl_sets off r (k + 1) (L.set (off + k) v)]
    rfl
theorem fill_part {place : Nat → Option (Nat × Nat)} {A old B vs : List Value} {i off n : Nat} {v : Value} {rest : List (Nat × Value)} (hp : place i = some (off, n)) (hv : v.cells = vs.toArray) (hn : vs.length = n) (hA : A.length = off) (ho : old.length = n) :
    Instr.fill place (A ++ (old ++ B)).toArray ((i, v) :: rest) = Instr.fill place (A ++ (vs ++ B)).toArray rest := by
  subst hA hn
  rw [Instr.fill, hp]
  simp only [hv]
  rw [if_neg (by simp; omega)]
  have h := foldl_sets A.length vs 0 (A ++ (old ++ B))
  rw [Nat.add_zero, setL_mid B vs old A ho] at h
  rw [← h]
  simp
theorem size_of {P : Program} {t : TypeId} {n : Nat} (h : (P.info? t).map (·.size) = some n) (w : World) : (sizeOf t).run P w = .ok n w := by
  cases hq : P.info? t with
  | none => simp [hq] at h
  | some i =>
    have hi : i.size = n := by simpa [hq] using h
    simp [sizeOf, typeInfo, hq, hi]
section
variable {P : Program} {ops : Array Oper} {rest : List Oper} {o : Oper} {a : Act} {w : World} {Q : Exit → Act → World → Prop}
theorem run_bs1 (t e : TypeId) (hu : P.underlying t = some (.slice e)) (k : Nat) (hs : (P.info? e).map (·.size) = some k) (hk : 0 < k ∧ k ≤ 1000) (z : Value) (hz : ∀ w, (zeroValue e).run P w = .ok z w) (cs : List Value) (hcs : cs.length = k) (w : World) :
    (Instr.buildSlice t 1 #[(0, .agg cs.toArray)]).run P w = .ok (.slice (some ⟨w.heap.size, 0, none⟩) 1 1) (w.alloc (.cells cs.toArray e)) := by
  have hfill : ∀ zs : Array Value, zs.size = k → Instr.fill (fun i => some (i * k, k)) zs [(0, .agg cs.toArray)] = some cs.toArray := fun zs hzs => by
    have h := fill_part (place := fun i => some (i * k, k)) (A := []) (old := zs.toList) (B := []) (vs := cs) (i := 0) (off := 0) (n := k) (v := .agg cs.toArray) (rest := []) (by simp) rfl hcs rfl (by simpa using hzs)
    simp only [List.append_nil, List.nil_append, Array.toArray_toList] at h
    rw [h]
    rfl
  cases hq : P.info? e with
  | none => simp [hq] at hs
  | some i =>
    have hi : i.size = k := by simpa [hq] using hs
    have h1 : ¬ (2 ^ 24 < k) := by have : (1000 : Nat) < 2 ^ 24 := by decide
                                   omega
    have h2 : ¬ k = 0 := by omega
    have hf := hfill ((Array.range k).map (z.cells[· % z.cells.size]!)) (by simp)
    have hsz : ∀ w : World, (sizeOf e).run P w = .ok k w := size_of hs
    clear hq hi
    unfold Instr.buildSlice
    simp only [Sem.run_bind, run_underlying hu, Result.andThen_ok, hsz, Nat.one_mul, gt_iff_lt, h1, if_false, h2, Sem.run_pure, hz, Sem.run_ite]
    rw [hf]
    simp [newRow, go_sem]
/-- The same, for the walk. -/
theorem step_bs1 (hgd : o.guard = none) (t e : TypeId) (x : Operand) (ho : o.op = .buildSlice t 1 #[(0, x)]) (hu : P.underlying t = some (.slice e)) (k : Nat) (hs : (P.info? e).map (·.size) = some k) (hk : 0 < k ∧ k ≤ 1000) (z : Value) (hz : ∀ w, (zeroValue e).run P w = .ok z w) (cs : List Value) (hcs : cs.length = k) (hx : a.eval x = .agg cs.toArray)
    (h : ∀ g w', Row w' g e cs → Hid (g = w.heap.size) → Below w.heap.size w w' → wpList P ops Q rest (a.put o.dst (.slice (some ⟨g, 0, none⟩) 1 1)) w') : wpList P ops Q (o :: rest) a w := by
  refine wpList_plain hgd fun K hK => ?_
  have hr := run_bs1 t e hu k hs hk z hz cs hcs w
  unfold Oper.wp execOp
  simp only [ho, hx, List.map_toArray, List.map_cons, List.map_nil, Sem.run_bind, hr, Result.andThen_ok]
  exact hK _ _ (h _ _ (Row.made w e cs) (show _ = _ from rfl) ((Below.refl _ _).alloc (Nat.le_refl _) _))
end
theorem filter_snoc {p : Ent → Bool} {X : List Ent} {k : Nat} {x : Ent} (hx : X[k]? = some x) : (X.take (k + 1)).filter p = (X.take k).filter p ++ (if p x then [x] else []) := by
  rw [List.take_add_one, hx, List.filter_append]
  congr 1
  cases h : p x <;> simp [h]
set_option maxHeartbeats 2000000 in
theorem kept_told (g : Nat) (after : Nat) (A : Option Addr) (n c : Nat) (X : List Ent) (hmax : n ≤ 1000000) (w : World) (h : Lies ecs 5 w A X) (hn : X.length = n) (hg : w.cell? ⟨g, 0, none⟩ = some (.int .u32 (after : Int))) :
    Calls Tryd.prog 34 #[.slice A n c, .func (.func 35) #[] #[.pointer (some ⟨g, 0, none⟩)]] w fun e w' => ∃ A' m c', e = .returned (.slice A' m c') ∧ w'.ownsRow w.heap.size 42 5 (.slice A' m c') m ((X.filter (fun e : Ent => decide (after < e.ck))).flatMap ecs) ∧ m ≤ n ∧ Below w.heap.size w w' := by
  obtain ⟨p, hp⟩ : ∃ p : Ent → Bool, (fun e : Ent => decide (after < e.ck)) = p := ⟨_, rfl⟩
  have HCALL := Lib.hid (p := ∀ (x : Ent) (W : World), Below w.heap.size w W → Calls Tryd.prog 35 #[.agg (ecs x).toArray, .pointer (some ⟨g, 0, none⟩)] W fun e W' => e = .returned (.bool (p x)) ∧ Below W.heap.size W W') (fun x W hb => by
    rw [← hp]
    exact behind_any x g after W ((hb.cell (p := ⟨g, 0, none⟩) (World.block_lt_of_cell? w _ hg)).trans hg))
  rw [hp]
  have H := Lib.hid h
  have HN := Lib.hid (And.intro hmax hn)
  clear h hmax hn hp hg
  go_enter Tryd.func34, Tryd.ntmps34
  go_wp2
  go_loopw [5, 10] (fun x y wr => ∃ (k : Nat) (A' : Option Addr) (m c' : Nat), Hid (k ≤ n) ∧ y = .int .i64 (k : Int) ∧ x = .slice A' m c' ∧ Hid (m ≤ k) ∧ Hid (wr.ownsRow w.heap.size 42 5 (.slice A' m c') m (((X.take k).filter p).flatMap ecs)) ∧ Hid (Below w.heap.size w wr)) (fun _ y _ => n - (intOf y).toNat)
  case atStart => exact ⟨0, none, 0, 0, Lib.hid (Nat.zero_le _), rfl, rfl, Lib.hid (Nat.zero_le _), Lib.hid (World.ownsRow_nil _ _ _ _), Lib.hid (Below.refl _ _)⟩
  case round =>
    obtain ⟨k, A', m, c', HKL, rfl, rfl, HM, HO, HB⟩ := hrel
    rename World => wr
    by_cases hk : k < n
    · have hki : (k : Int) < (n : Int) := by omega
      have hkw : IntKind.i64.wrap ((k : Int) + 1) = (k : Int) + 1 := by rw [IntKind.wrap_i64]; have := HN.out; omega
      have hkx : k < X.length := by have := HN.out; omega
      obtain ⟨g0, o0, rfl, hc⟩ := (H.out.below HB.out).at_ hkx
      obtain ⟨x, hx⟩ : ∃ x, X[k] = x := ⟨_, rfl⟩
      rw [hx] at hc
      have HX := Lib.hid (p := X[k]? = some x) (by rw [List.getElem?_eq_getElem hkx, hx])
      have HR := Lib.hid (p := wr.rangeAt g0 (o0 + k * 5) (ecs x)) (fun i u hu => hc i u hu)
      have HK := Lib.hid hk
      clear hc hx hkx hk
      obtain ⟨z, hz⟩ : ∃ z, p x = z := ⟨_, rfl⟩
      have HZ := Lib.hid hz
      cases z
      · clear hz
        go_wp2_with (first
          | (refine wpList_load_mid rfl 42 (.tmp 12) rfl g0 (o0 + k * 5) rfl (ecs x) _ HR.out Tryd.underlying42 rfl (info_ent x) ?_)
          | (refine step_alloc rfl 7 rfl 42 rfl (ecs ent0) zero_ent ?_; intro g7 w2 hr2 hg2 hb2 hs2
             have HR2 := Lib.hid hr2
             have HB2 := Lib.hid hb2
             have HG2 := hg2
             clear hr2 hg2 hb2 hs2)
          | (refine step_store rfl 42 _ _ rfl g7 rfl 42 (ecs ent0) (ecs x) rfl HR2.out rfl (info_ent x) (ecs_one x) ?_; intro w3 hr3 hg3 hs3
             have HR3 := Lib.hid hr3
             have HB3 := Lib.hid (HB2.out.grown hg3 HB2.out.size (fun q hq => by injection hq with hq; subst hq; exact Nat.le_of_eq HG2.out.symm))
             clear hr3 hg3 hs3)
          | (refine step_load rfl 15 rfl 42 (.tmp 7) rfl g7 rfl (ecs x) _ HR3.out.all Tryd.underlying42 rfl (info_ent x) ?_)
          | (go_at_call 35; refine (HCALL.out x _ (below_nxt HB3.out HB.out)).mono ?_; rintro e w4 ⟨rfl, hb⟩
             have HB4 := Lib.hid (below_nxt hb HB3.out)
             have HR4 := Lib.hid (HR3.out.kept hb)
             rw [HZ.out]
             clear hb))
        go_roundw
        case rel => exact ⟨k + 1, A', m, c', Lib.hid HK.out, by go_num, rfl, Lib.hid (by have := HM.out; omega), Lib.hid (by rw [filter_snoc HX.out, HZ.out, if_neg Bool.false_ne_true, List.append_nil]; exact own_kept HO.out HB4.out), Lib.hid (below_nxt HB4.out HB.out)⟩
        case measure => have := HK.out; simp [intOf]; omega
      · clear hz
        go_wp2_with (first
          | (refine wpList_load_mid rfl 42 (.tmp 12) rfl g0 (o0 + k * 5) rfl (ecs x) _ HR.out Tryd.underlying42 rfl (info_ent x) ?_)
          | (refine step_alloc rfl 7 rfl 42 rfl (ecs ent0) zero_ent ?_; intro g7 w2 hr2 hg2 hb2 hs2
             have HR2 := Lib.hid hr2
             have HB2 := Lib.hid hb2
             have HG2 := hg2
             clear hr2 hg2 hb2 hs2)
          | (refine step_store rfl 42 _ _ rfl g7 rfl 42 (ecs ent0) (ecs x) rfl HR2.out rfl (info_ent x) (ecs_one x) ?_; intro w3 hr3 hg3 hs3
             have HR3 := Lib.hid hr3
             have HB3 := Lib.hid (HB2.out.grown hg3 HB2.out.size (fun q hq => by injection hq with hq; subst hq; exact Nat.le_of_eq HG2.out.symm))
             clear hr3 hg3 hs3)
          | (refine step_load rfl 15 rfl 42 (.tmp 7) rfl g7 rfl (ecs x) _ HR3.out.all Tryd.underlying42 rfl (info_ent x) ?_)
          | (go_at_call 35; refine (HCALL.out x _ (below_nxt HB3.out HB.out)).mono ?_; rintro e w4 ⟨rfl, hb⟩
             have HB4 := Lib.hid (below_nxt hb HB3.out)
             have HR4 := Lib.hid (HR3.out.kept hb)
             rw [HZ.out]
             clear hb)
          | (refine step_load rfl 18 rfl 42 (.tmp 7) rfl g7 rfl (ecs x) _ HR4.out.all Tryd.underlying42 rfl (info_ent x) ?_)
          | (refine step_bs1 rfl 22 42 _ rfl Tryd.underlying22 5 (info_ent x) (by decide) _ zero_ent (ecs x) rfl rfl ?_; intro g8 w8 hr8 hg8 hb8
             have HR8 := Lib.hid hr8
             have HB8 := Lib.hid (below_nxt hb8 HB4.out)
             clear hr8 hg8 hb8)
          | (at_builtin
             have HOW := Lib.hid (own_kept HO.out HB8.out)
             refine wp_join rfl _ _ rfl rec_ent w.heap.size (.slice A' m c') m (((X.take k).filter p).flatMap ecs) rfl HOW.out (some ⟨g8, 0, none⟩) 1 1 (ecs x) rfl rfl (.inr ⟨_, rfl, fun j u hu => by rw [Addr.add_lit]; exact HR8.out.all j u hu⟩) (ecs_one x) (by have := HM.out; have := HN.out; have := HK.out; omega) (by have := HB.out.size; have := HB8.out.size; omega) ?_
             intro v1 w5 ho1 hg1 hat1
             obtain ⟨A1, c1', rfl⟩ := own_sl ho1
             have HO2 := Lib.hid ho1
             have HB5 := Lib.hid ((below_nxt HB8.out HB.out).grown hg1 (by have := HB.out.size; have := HB8.out.size; omega) (fun k hk => (HOW.out.lt k hk).1))
             clear ho1 hg1 hat1))
        go_roundw
        case rel => exact ⟨k + 1, A1, m + 1, c1', Lib.hid HK.out, by go_num, rfl, Lib.hid (by have := HM.out; omega), Lib.hid (by rw [filter_snoc HX.out, HZ.out, if_pos rfl, flat_snoc]; exact HO2.out), HB5⟩
        case measure => have := HK.out; simp [intOf]; omega
    · have hke : k = n := by have := HKL.out; omega
      have hki : ¬ (k : Int) < (n : Int) := by omega
      have HKE := Lib.hid hke
      clear hk hke
      go_wp2
      go_ret
      refine ⟨A', m, c', rfl, ?_, by have := HM.out; have := HKE.out; omega, HB.out⟩
      have h1 := HO.out
      rw [List.take_of_length_le (by rw [HN.out.2, HKE.out]; exact Nat.le_refl _)] at h1
      exact h1
set_option maxHeartbeats 2000000 in
theorem kept_without (g : Nat) (nm : ByteArray) (A : Option Addr) (n c : Nat) (X : List Ent) (hmax : n ≤ 1000000) (w : World) (h : Lies ecs 5 w A X) (hn : X.length = n) (hg : w.cell? ⟨g, 0, none⟩ = some (.string nm)) :
    Calls Tryd.prog 34 #[.slice A n c, .func (.func 40) #[] #[.pointer (some ⟨g, 0, none⟩)]] w fun e w' => ∃ A' m c', e = .returned (.slice A' m c') ∧ w'.ownsRow w.heap.size 42 5 (.slice A' m c') m ((X.filter (fun e : Ent => !(e.nm.toList == nm.toList))).flatMap ecs) ∧ m ≤ n ∧ Below w.heap.size w w' := by
  obtain ⟨p, hp⟩ : ∃ p : Ent → Bool, (fun e : Ent => !(e.nm.toList == nm.toList)) = p := ⟨_, rfl⟩
  have HCALL := Lib.hid (p := ∀ (x : Ent) (W : World), Below w.heap.size w W → Calls Tryd.prog 40 #[.agg (ecs x).toArray, .pointer (some ⟨g, 0, none⟩)] W fun e W' => e = .returned (.bool (p x)) ∧ Below W.heap.size W W') (fun x W hb => by
    rw [← hp]
    exact other_any x g nm W ((hb.cell (p := ⟨g, 0, none⟩) (World.block_lt_of_cell? w _ hg)).trans hg))
  rw [hp]
  have H := Lib.hid h
  have HN := Lib.hid (And.intro hmax hn)
  clear h hmax hn hp hg
  go_enter Tryd.func34, Tryd.ntmps34
  go_wp2
  go_loopw [5, 10] (fun x y wr => ∃ (k : Nat) (A' : Option Addr) (m c' : Nat), Hid (k ≤ n) ∧ y = .int .i64 (k : Int) ∧ x = .slice A' m c' ∧ Hid (m ≤ k) ∧ Hid (wr.ownsRow w.heap.size 42 5 (.slice A' m c') m (((X.take k).filter p).flatMap ecs)) ∧ Hid (Below w.heap.size w wr)) (fun _ y _ => n - (intOf y).toNat)
  case atStart => exact ⟨0, none, 0, 0, Lib.hid (Nat.zero_le _), rfl, rfl, Lib.hid (Nat.zero_le _), Lib.hid (World.ownsRow_nil _ _ _ _), Lib.hid (Below.refl _ _)⟩
  case round =>
    obtain ⟨k, A', m, c', HKL, rfl, rfl, HM, HO, HB⟩ := hrel
    rename World => wr
    by_cases hk : k < n
    · have hki : (k : Int) < (n : Int) := by omega
      have hkw : IntKind.i64.wrap ((k : Int) + 1) = (k : Int) + 1 := by rw [IntKind.wrap_i64]; have := HN.out; omega
      have hkx : k < X.length := by have := HN.out; omega
      obtain ⟨g0, o0, rfl, hc⟩ := (H.out.below HB.out).at_ hkx
      obtain ⟨x, hx⟩ : ∃ x, X[k] = x := ⟨_, rfl⟩
      rw [hx] at hc
      have HX := Lib.hid (p := X[k]? = some x) (by rw [List.getElem?_eq_getElem hkx, hx])
      have HR := Lib.hid (p := wr.rangeAt g0 (o0 + k * 5) (ecs x)) (fun i u hu => hc i u hu)
      have HK := Lib.hid hk
      clear hc hx hkx hk
      obtain ⟨z, hz⟩ : ∃ z, p x = z := ⟨_, rfl⟩
      have HZ := Lib.hid hz
      cases z
      · clear hz
        go_wp2_with (first
          | (refine wpList_load_mid rfl 42 (.tmp 12) rfl g0 (o0 + k * 5) rfl (ecs x) _ HR.out Tryd.underlying42 rfl (info_ent x) ?_)
          | (refine step_alloc rfl 7 rfl 42 rfl (ecs ent0) zero_ent ?_; intro g7 w2 hr2 hg2 hb2 hs2
             have HR2 := Lib.hid hr2
             have HB2 := Lib.hid hb2
             have HG2 := hg2
             clear hr2 hg2 hb2 hs2)
          | (refine step_store rfl 42 _ _ rfl g7 rfl 42 (ecs ent0) (ecs x) rfl HR2.out rfl (info_ent x) (ecs_one x) ?_; intro w3 hr3 hg3 hs3
             have HR3 := Lib.hid hr3
             have HB3 := Lib.hid (HB2.out.grown hg3 HB2.out.size (fun q hq => by injection hq with hq; subst hq; exact Nat.le_of_eq HG2.out.symm))
             clear hr3 hg3 hs3)
          | (refine step_load rfl 15 rfl 42 (.tmp 7) rfl g7 rfl (ecs x) _ HR3.out.all Tryd.underlying42 rfl (info_ent x) ?_)
          | (go_at_call 40; refine (HCALL.out x _ (below_nxt HB3.out HB.out)).mono ?_; rintro e w4 ⟨rfl, hb⟩
             have HB4 := Lib.hid (below_nxt hb HB3.out)
             have HR4 := Lib.hid (HR3.out.kept hb)
             rw [HZ.out]
             clear hb))
        go_roundw
        case rel => exact ⟨k + 1, A', m, c', Lib.hid HK.out, by go_num, rfl, Lib.hid (by have := HM.out; omega), Lib.hid (by rw [filter_snoc HX.out, HZ.out, if_neg Bool.false_ne_true, List.append_nil]; exact own_kept HO.out HB4.out), Lib.hid (below_nxt HB4.out HB.out)⟩
        case measure => have := HK.out; simp [intOf]; omega
      · clear hz
        go_wp2_with (first
          | (refine wpList_load_mid rfl 42 (.tmp 12) rfl g0 (o0 + k * 5) rfl (ecs x) _ HR.out Tryd.underlying42 rfl (info_ent x) ?_)
          | (refine step_alloc rfl 7 rfl 42 rfl (ecs ent0) zero_ent ?_; intro g7 w2 hr2 hg2 hb2 hs2
             have HR2 := Lib.hid hr2
             have HB2 := Lib.hid hb2
             have HG2 := hg2
             clear hr2 hg2 hb2 hs2)
          | (refine step_store rfl 42 _ _ rfl g7 rfl 42 (ecs ent0) (ecs x) rfl HR2.out rfl (info_ent x) (ecs_one x) ?_; intro w3 hr3 hg3 hs3
             have HR3 := Lib.hid hr3
             have HB3 := Lib.hid (HB2.out.grown hg3 HB2.out.size (fun q hq => by injection hq with hq; subst hq; exact Nat.le_of_eq HG2.out.symm))
             clear hr3 hg3 hs3)
          | (refine step_load rfl 15 rfl 42 (.tmp 7) rfl g7 rfl (ecs x) _ HR3.out.all Tryd.underlying42 rfl (info_ent x) ?_)
          | (go_at_call 40; refine (HCALL.out x _ (below_nxt HB3.out HB.out)).mono ?_; rintro e w4 ⟨rfl, hb⟩
             have HB4 := Lib.hid (below_nxt hb HB3.out)
             have HR4 := Lib.hid (HR3.out.kept hb)
             rw [HZ.out]
             clear hb)
          | (refine step_load rfl 18 rfl 42 (.tmp 7) rfl g7 rfl (ecs x) _ HR4.out.all Tryd.underlying42 rfl (info_ent x) ?_)
          | (refine step_bs1 rfl 22 42 _ rfl Tryd.underlying22 5 (info_ent x) (by decide) _ zero_ent (ecs x) rfl rfl ?_; intro g8 w8 hr8 hg8 hb8
             have HR8 := Lib.hid hr8
             have HB8 := Lib.hid (below_nxt hb8 HB4.out)
             clear hr8 hg8 hb8)
          | (at_builtin
             have HOW := Lib.hid (own_kept HO.out HB8.out)
             refine wp_join rfl _ _ rfl rec_ent w.heap.size (.slice A' m c') m (((X.take k).filter p).flatMap ecs) rfl HOW.out (some ⟨g8, 0, none⟩) 1 1 (ecs x) rfl rfl (.inr ⟨_, rfl, fun j u hu => by rw [Addr.add_lit]; exact HR8.out.all j u hu⟩) (ecs_one x) (by have := HM.out; have := HN.out; have := HK.out; omega) (by have := HB.out.size; have := HB8.out.size; omega) ?_
             intro v1 w5 ho1 hg1 hat1
             obtain ⟨A1, c1', rfl⟩ := own_sl ho1
             have HO2 := Lib.hid ho1
             have HB5 := Lib.hid ((below_nxt HB8.out HB.out).grown hg1 (by have := HB.out.size; have := HB8.out.size; omega) (fun k hk => (HOW.out.lt k hk).1))
             clear ho1 hg1 hat1))
        go_roundw
        case rel => exact ⟨k + 1, A1, m + 1, c1', Lib.hid HK.out, by go_num, rfl, Lib.hid (by have := HM.out; omega), Lib.hid (by rw [filter_snoc HX.out, HZ.out, if_pos rfl, flat_snoc]; exact HO2.out), HB5⟩
        case measure => have := HK.out; simp [intOf]; omega
    · have hke : k = n := by have := HKL.out; omega
      have hki : ¬ (k : Int) < (n : Int) := by omega
      have HKE := Lib.hid hke
      clear hk hke
      go_wp2
      go_ret
      refine ⟨A', m, c', rfl, ?_, by have := HM.out; have := HKE.out; omega, HB.out⟩
      have h1 := HO.out
      rw [List.take_of_length_le (by rw [HN.out.2, HKE.out]; exact Nat.le_refl _)] at h1
      exact h1
end Go.Proofs.YtijffkklhgnknaaDoor
