/- A space settles: all that was given back is free. Conditions: those named. -/
import Derived.Test.YtkmnmmenjpkkpaaDoorSp
import Derived.Deep.MidRow
set_option linter.unusedVariables false
namespace Go.Proofs.YtkmnmmenjpkkpaaDoor
open Go.RowKit Go.Shelf

attribute [local go_sem] Oper.semAt_some

/-- A store of a whole row, within a fence. -/
theorem in_store_mid {F : Fence} {n : Nat} {P : Program} {ops : Array Oper} {rest : List Oper} {o : Oper} {a : Act} {w : World} {Q : Exit → Act → World → Prop} (hgd : o.guard = none) (ty : TypeId) (x y : Operand) (ho : o.op = .store ty x y)
    (b off : Nat) (cells : Array Value) (hx : a.eval x = .pointer (some ⟨b, off, none⟩)) (hy : a.eval y = .agg cells)
    (ht : w.there b off cells.size) (hi : (P.info? ty).map (·.size) = some cells.size) (h1 : cells.all (·.oneCell') = true)
    (h : ∀ w', Hid (w' = w.setCells b off cells.toList) → wpListIn F n P ops Q rest (a.put o.dst undef) w') : wpListIn F n P ops Q (o :: rest) a w := by
  refine wpListIn_plain hgd fun K hK => ?_
  have e := run_storeAt_mid (P := P) w b off ty cells ht hi h1
  unfold Oper.wpIn
  refine ⟨?_, ?_⟩
  · simp [Oper.about, ho]
  · rw [Oper.semAt_plain F _ _ (by rw [ho]; intro c hc'; cases hc')]
    simp [execOp, ho, hx, hy, e, Result.andThen]
    exact hK _ _ (h _ (Lib.hid rfl))

/-- A row, built of parts, within a fence. -/
theorem in_build {F : Fence} {n : Nat} {P : Program} {ops : Array Oper} {rest : List Oper} {o : Oper} {a : Act} {w : World} {Q : Exit → Act → World → Prop} (hgd : o.guard = none) (t : TypeId) (parts : Array (Nat × Operand)) (ho : o.op = .build t parts)
    (vs : Array (Nat × Value)) (hv : (parts.map fun (i, x) => (i, a.eval x)) = vs) (cells : Array Value) (hb : P.built t vs.toList = some cells)
    (h : wpListIn F n P ops Q rest (a.put o.dst (.agg cells)) w) : wpListIn F n P ops Q (o :: rest) a w := by
  refine wpListIn_plain hgd fun K hK => ?_
  have e := run_build (P := P) w t vs cells hb
  unfold Oper.wpIn
  refine ⟨?_, ?_⟩
  · simp [Oper.about, ho]
  · rw [Oper.semAt_plain F _ _ (by rw [ho]; intro c hc'; cases hc')]
    simp only [execOp, ho, hv]
    simp [e, Result.andThen]
    exact hK _ _ h

/-- Cells replaced from a place on. -/
def sets : List Value → Nat → List Value → List Value
  | cs, _, [] => cs
  | cs, o, v :: r => sets (cs.set o v) (o + 1) r
theorem Row.sets {g : Nat} {t : TypeId} : ∀ (vs : List Value) {cs : List Value} {w : World} (o : Nat), Row w g t cs → Row (w.setCells g o vs) g t (sets cs o vs)
  | [], _, _, _, h => h
  | v :: r, cs, w, o, h => Row.sets r (o + 1) (h.put o v)
theorem sets_len : ∀ (vs : List Value) (cs : List Value) (o : Nat), (sets cs o vs).length = cs.length
  | [], _, _ => rfl
  | v :: r, cs, o => by rw [sets, sets_len r, List.length_set]
theorem sets_out : ∀ (vs : List Value) (cs : List Value) (o j : Nat), (j < o ∨ o + vs.length ≤ j) → (sets cs o vs)[j]? = cs[j]?
  | [], _, _, _, _ => rfl
  | v :: r, cs, o, j, h => by
    rw [List.length_cons] at h
    rw [sets, sets_out r _ _ _ (by omega), List.getElem?_set, if_neg (by omega)]
theorem sets_in : ∀ (vs : List Value) (cs : List Value) (o j : Nat), j < vs.length → o + vs.length ≤ cs.length → (sets cs o vs)[o + j]? = vs[j]?
  | [], _, _, _, h, _ => absurd h (Nat.not_lt_zero _)
  | v :: r, cs, o, 0, _, h2 => by
    rw [List.length_cons] at h2
    rw [sets, sets_out r _ _ _ (by omega), Nat.add_zero, List.getElem?_set, if_pos rfl, if_pos (by omega)]
    rfl
  | v :: r, cs, o, j + 1, h, h2 => by
    rw [List.length_cons] at h h2
    rw [sets, show o + (j + 1) = (o + 1) + j by omega, sets_in r _ _ _ (by omega) (by rw [List.length_set]; omega)]
    rfl
theorem grown_sets {g : Nat} : ∀ (vs : List Value) (w : World) (o : Nat), w.grownBy (w.setCells g o vs) (some g)
  | [], w, _ => ⟨rfl, rfl, rfl, Nat.le_refl _, fun _ _ _ => rfl⟩
  | v :: r, w, o => grown_trans (grown_set w ⟨g, o, none⟩ v) (grown_sets r _ _)
/-- A row that reads as a space does is its row. -/
theorem spc_of {N : Nat} {F B : Nat → Bool} {l : List Value} (hl : l.length = 33) (h0 : l[0]? = some (.int .i64 (N : Int))) (h1 : ∀ i, i < 16 → l[1 + i]? = some (W64 (wv F i))) (h2 : ∀ i, i < 16 → l[17 + i]? = some (W64 (wv B i))) : l = spc N F B := by
  apply List.ext_getElem?
  intro j
  by_cases e0 : j = 0
  · rw [e0, h0, spc_num]
  · by_cases e1 : j < 17
    · obtain ⟨i, rfl⟩ : ∃ i, j = 1 + i := ⟨j - 1, by omega⟩
      rw [h1 i (by omega), spc_free N F B (by omega)]
    · by_cases e2 : j < 33
      · obtain ⟨i, rfl⟩ : ∃ i, j = 17 + i := ⟨j - 17, by omega⟩
        rw [h2 i (by omega), spc_back N F B (by omega)]
      · rw [List.getElem?_eq_none (by omega), List.getElem?_eq_none (by rw [spc_len]; omega)]
theorem wv_none (i : Nat) : wv (fun _ => false) i = 0 := by rw [wv_eq]; exact num_zero 64 (fun _ _ => rfl)
theorem spc_clear (N : Nat) (F B : Nat → Bool) : sets (spc N F B) 17 (List.replicate 16 (W64 0)) = spc N F (fun _ => false) := by
  refine spc_of (by rw [sets_len, spc_len]) (by rw [sets_out _ _ _ _ (by omega), spc_num]) (fun i hi => by rw [sets_out _ _ _ _ (by omega), spc_free N F B hi]) (fun i hi => ?_)
  rw [sets_in _ _ _ _ (by simpa using hi) (by rw [spc_len]; simp), wv_none, List.getElem?_replicate, if_pos hi]

/-- What is free when the places below m were told. -/
def uF (F B : Nat → Bool) (m : Nat) : Nat → Bool := fun j => F j || (decide (j < m) && B j)
theorem uF_zero (F B : Nat → Bool) : uF F B 0 = F := by funext j; simp [uF]
theorem uF_put {F B : Nat → Bool} {m : Nat} (h : B m = true) : put (uF F B m) m true = uF F B (m + 1) := by
  funext j
  unfold put uF
  by_cases e : j = m
  · rw [if_pos e, e, h]; simp
  · rw [if_neg e]
    have : decide (j < m) = decide (j < m + 1) := by rw [decide_eq_decide]; omega
    rw [this]
theorem uF_skip {F B : Nat → Bool} {m : Nat} (h : B m = false) : uF F B (m + 1) = uF F B m := by
  funext j
  unfold uF
  by_cases e : j = m
  · rw [e, h]; simp
  · have : decide (j < m) = decide (j < m + 1) := by rw [decide_eq_decide]; omega
    rw [this]
theorem row_own {β : Type} (g : Nat) (t : TypeId) (f : β → List Value) : Own (fun s W => Row W g t (f s)) := fun s X Y row hs hg hr => by
  have h : X.heap[g]? = some (.cells (f s).toArray t (0, 0)) := hs
  exact (grownBy_keeps_cells hg hr h rfl).trans h
theorem ownFrom_up {β : Type} {B g : Nat} {w : World} (hB : w.heap.size ≤ B) : OwnFrom B (fun (_ : β) W => w.grownBy W (some g)) := fun _ X Y row hs hg hr =>
  ⟨hg.os.trans hs.os, hg.tape.trans hs.tape, hg.output.trans hs.output, Nat.le_trans hs.size hg.size, fun k hk hne => (hg.block k (Nat.lt_of_lt_of_le hk hs.size) (fun e => by have := (hr k e.symm).1; omega)).trans (hs.block k hk hne)⟩

theorem cleared {W w6 : World} {g N : Nat} {F B : Nat → Bool} (h : SpAt W g N F B) {L : List Value} (hL : L = List.replicate 16 (W64 0)) (e : w6 = W.setCells g 17 L) : SpAt w6 g N F (fun _ => false) ∧ W.grownBy w6 (some g) := by
  subst e
  have h1 := Row.sets L 17 h
  rw [hL, spc_clear, ← hL] at h1
  exact ⟨h1, grown_sets _ _ _⟩
theorem keeps_row {W w6 : World} {g : Nat} {t : TypeId} {cs : List Value} (h : Row W g t cs) (k : W.grownBy w6 (some g)) : KeepsOthers W w6 :=
  KeepsOthers.of_grownBy k (fun j o e ho => by
    have e2 : g = j := Option.some.inj e
    rw [← e2, h.heap] at ho
    rw [← Option.some.inj ho]
    rfl)
theorem up_far {g : Nat} {w W : World} (h : w.grownBy W (some g)) {p : Addr} (hp : w.heap.size ≤ p.block) (u : Value) : w.grownBy (W.setCell p u) (some g) :=
  ⟨h.os, h.tape, h.output, Nat.le_trans h.size (by simp [World.setCell]), fun k hk hne => (Below.heap_setCell _ _ _ _ (by omega)).trans (h.block k hk hne)⟩
theorem up_obj {g : Nat} {w W : World} (h : w.grownBy W (some g)) {D : Nat} (hD : w.heap.size ≤ D) (o : Obj) : w.grownBy (W.putObj D o) (some g) :=
  ⟨h.os, h.tape, h.output, Nat.le_trans h.size (by simp), fun k hk hne => (World.putObj_heap_other (by omega)).trans (h.block k hk hne)⟩
/-- Sixteen empty words. -/
def zer16 : Array Value := #[.int .u64 0, .int .u64 0, .int .u64 0, .int .u64 0, .int .u64 0, .int .u64 0, .int .u64 0, .int .u64 0, .int .u64 0, .int .u64 0, .int .u64 0, .int .u64 0, .int .u64 0, .int .u64 0, .int .u64 0, .int .u64 0]
theorem zer16_list : zer16.toList = List.replicate 16 (W64 0) := rfl
theorem zeros16 : (zer16.all (·.oneCell')) = true := all_oneCell_toArray (cs := List.replicate 16 (W64 0)) (fun v hv => by rw [List.eq_of_mem_replicate hv]; rfl)

set_option maxRecDepth 100000 in
set_option maxHeartbeats 4000000 in
theorem settle_any (g N : Nat) (F B : Nat → Bool) (w : World) (h : SpAt w g N F B) (hT : Tab w) (hTg : 0 ≠ g) :
    Calls Tryd.prog 17 #[.pointer (some ⟨g, 0, none⟩)] w fun e w' => e = .returned (.int .i64 (cnt 1024 B : Int)) ∧ SpAt w' g N (uF F B 1024) (fun _ => false) ∧ w.grownBy w' (some g) := by
  have HS := Lib.hid h
  have HT := Lib.hid hT
  have hg := h.lt
  clear h hT
  refine (callsIn_wide (n := 3)).1 ?_
  refine callsIn_of_wp_marks Tryd.func17 rfl trivial ?_ rfl
  simp only [Tryd.ntmps17, List.size_toArray, List.length_cons, List.length_nil, Nat.reduceAdd, Nat.reduceSub, Array.replicate_succ, Array.replicate_zero, List.push_toArray, List.append_toArray, List.nil_append, List.cons_append]
  gi_wp2
  have bS := (Boxed.new w 24 (.pointer (some ⟨g, 0, none⟩))).alloc (.cells #[.int .i64 0] 3)
  have bN := Boxed.new (w.alloc (.cells #[.pointer (some ⟨g, 0, none⟩)] 24)) 3 (.int .i64 0)
  simp only [World.size_alloc] at bN
  have hB0 : Below w.heap.size w ((w.alloc (.cells #[.pointer (some ⟨g, 0, none⟩)] 24)).alloc (.cells #[.int .i64 0] 3)) := ((Below.refl _ w).alloc (Nat.le_refl _) _).alloc (by simp) _
  have hsz : ((w.alloc (.cells #[.pointer (some ⟨g, 0, none⟩)] 24)).alloc (.cells #[.int .i64 0] 3)).heap.size = w.heap.size + 2 := by simp
  obtain ⟨W0, hW0⟩ : ∃ W0, (w.alloc (.cells #[.pointer (some ⟨g, 0, none⟩)] 24)).alloc (.cells #[.int .i64 0] 3) = W0 := ⟨_, rfl⟩
  rw [hW0] at bS bN hB0 hsz ⊢
  clear hW0
  have HSZ := Lib.hid hsz
  refine range_places (by omega) g 17 B rfl
    (fun m W => SpAt W g N (uF F B m) B ∧ (Boxed W w.heap.size 24 (.pointer (some ⟨g, 0, none⟩)) ∧ Boxed W (w.heap.size + 1) 3 (.int .i64 (cnt m B : Int))) ∧ w.grownBy W (some g))
    (fun m W => False)
    (OwnFrom.and (Own.from (row_own g 51 (fun m => spc N (uF F B m) B)) _) (OwnFrom.and (OwnFrom.and (Own.from (boxed_own w.heap.size 24 (fun (_ : Nat) => Value.pointer (some ⟨g, 0, none⟩))) _) (Own.from (boxed_own (w.heap.size + 1) 3 (fun (m : Nat) => Value.int .i64 (cnt m B : Int))) _)) (ownFrom_up (by rw [hsz]; omega))))
    (ownFrom_pure _ _)
    (by omega)
    (fun m W ⟨h1, _, h2⟩ => ⟨HT.out.grown h2 hTg, spb_at h1⟩)
    (fun m W _ h1 h2 => by
      have e : cnt (m + 1) B = cnt m B := by rw [cnt_succ, h1]; rfl
      rw [uF_skip h1, e]
      exact h2)
    ⟨by rw [uF_zero]; exact HS.out.kept hB0, ⟨bS, by rw [cnt_zero]; exact bN⟩, grown_of_below hB0⟩
    (fun m => { tmps := #[.pointer (some ⟨g, 0, none⟩), .pointer (some ⟨w.heap.size, 0, none⟩), .int .i64 0, .pointer (some ⟨w.heap.size + 1, 0, none⟩), .int .i64 (m : Int), .pointer (some ⟨g, 0, none⟩), .bool false, .pointer (some ⟨g, 0, none⟩), .pointer (some ⟨g, 0, none⟩), .pointer (some ⟨g, 17, none⟩), .func (.func 27) #[.pointer (some ⟨g, 17, none⟩)] #[], .int .i64 (m : Int), undef, undef, undef, undef, undef, undef, undef, undef, undef, undef, undef, undef], defers := [] })
    ?assign ?body ?done (fun _ _ _ _ _ _ h => h.elim)
  case assign =>
    intro l m W K hK
    gi_wp2
    exact hK
  case body =>
    rintro l m W hm hBm ⟨h1, ⟨b1, b2⟩, h2⟩
    have cS := b1.cell
    have e1 : cnt (m + 1) B = cnt m B + 1 := by rw [cnt_succ, hBm]; rfl
    have e2 := cnt_le m B
    obtain ⟨c, hc⟩ : ∃ c, cnt m B = c := ⟨_, rfl⟩
    rw [hc] at b2 e1 e2
    have e3 : wrap64 ((c : Int) + 1) = (c : Int) + 1 := by unfold wrap64; omega
    have hx : (spc N (uF F B m) B)[1 + m / 64]? = some (W64 (num 64 (fun j => uF F B m (64 * (m / 64) + j)))) := by rw [spc_free _ _ _ (by omega), wv_eq]
    have HX := Lib.hid hx
    have H1 := Lib.hid h1
    have H2 := Lib.hid h2
    have HB1 := Lib.hid b1
    have HB2 := Lib.hid b2
    have HM := Lib.hid (p := m < 1024 ∧ B m = true ∧ cnt (m + 1) B = c + 1) ⟨hm, hBm, e1⟩
    clear hx h1 h2 b1 b2 hm hBm e1 e2 hc
    gi_wp2_with (refine ⟨trivial, ?_⟩; gi_at_call 23; refine (CallsIn.inRound l (callsIn_wide.2 (add_any (a := m) (off := 1) H1.out HM.out.1 HX.out))).mono ?_; rintro e w5 ⟨⟨v5, rfl⟩, hr5, hg5⟩; have b25 := Lib.hid (HB2.out.kept hg5 (by intro e; injection e; omega)); have b15 := Lib.hid (HB1.out.kept hg5 (by intro e; injection e; omega)); have c25 := b25.out.cell; have f25 := b25.out.frozen; have HR5 := Lib.hid hr5; have HG5 := Lib.hid hg5; clear hr5 hg5)
    have HG7 := Lib.hid (KeepsFrom.of_grownBy (B := W0.heap.size) HG5.out (fun j e => by injection e; have := HSZ.out; omega))
    refine ⟨HG7.out.trans ((KeepsOthers.setCell _ _ _).from _), ?_, ⟨b15.out.other (by omega) _, ?_⟩, up_far (grown_trans H2.out HG5.out) (Nat.le_succ _) _⟩
    · have hr := HR5.out
      rw [spc_setF _ _ _ true HM.out.1, uF_put HM.out.2.1] at hr
      exact hr.far (by show g ≠ w.heap.size + 1; omega) _
    · rw [HM.out.2.2]
      exact b25.out.set _
  case done =>
    rintro D W hD ⟨h1, ⟨b1, b2⟩, h2⟩ hK
    have cS := b1.cell
    obtain ⟨c, hc⟩ : ∃ c, cnt 1024 B = c := ⟨_, rfl⟩
    rw [hc] at b2
    have HN := Lib.hid b2
    have HC := Lib.hid hc
    have H1 := Lib.hid h1
    have H2 := Lib.hid h2
    have HKD := Lib.hid hK
    have HD := Lib.hid hD
    have HTH := Lib.hid (h1.is_there 17 16 (by rw [spc_len]; decide))
    have HI := Lib.hid (p := (Tryd.prog.info? 49).map (·.size) = some zer16.size) (by kernel_rfl)
    have HZB := Lib.hid (p := Tryd.prog.built 49 [] = some zer16) (by kernel_rfl)
    clear h1 h2 hK hD hc b1 b2
    gi_wp2_with (first | (refine in_build rfl 49 #[] rfl #[] rfl zer16 HZB.out ?_) | (refine in_store_mid rfl 49 _ _ rfl g 17 zer16 rfl rfl HTH.out HI.out zeros16 ?_; intro w6 e6; have h6 := cleared H1.out zer16_list e6.out; have HA := Lib.hid h6.1; have HGS := Lib.hid h6.2; have cN : w6.cell? ⟨w.heap.size + 1, 0, none⟩ = some (.int .i64 (c : Int)) := (HN.out.kept HGS.out (by intro e; injection e; omega)).cell; clear h6 e6))
    have hK' := (keeps_row H1.out HGS.out).same D _ HKD.out rfl
    refine ⟨by simp, .inl ⟨_, _, rfl, run_takeDeferred hK', ?_⟩⟩
    refine ⟨.int .i64 (c : Int), ?_, by rw [HC.out], (row_own g 51 (fun (_ : Unit) => spc N (uF F B 1024) fun _ => false)) () _ _ (some D) HA.out (grownBy_putObj' _ D (.deferred none)) (fun r e => by cases e; exact ⟨_, hK', rfl⟩), up_obj (grown_trans H2.out HGS.out) (by have := HD.out; have := HSZ.out; omega) _⟩
    simp [results, Tryd.f17, go_sem]
end Go.Proofs.YtkmnmmenjpkkpaaDoor
