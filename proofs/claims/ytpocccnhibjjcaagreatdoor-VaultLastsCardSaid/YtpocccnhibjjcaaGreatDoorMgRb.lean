/- A loop over the places of a set, told by a method of the set (a range over a method's value): what the loop leaves, from what its body leaves. Conditions: those named. -/
import Derived.Test.YtpocccnhibjjcaaGreatDoorMgPSettle
import Derived.Deep.MidRow
set_option linter.unusedVariables false
namespace Go.Proofs.YtpocccnhibjjcaaGreatDoor.S8
open Go.RowKit Go.Shelf

def Round (B m : Nat) (I Ix : Nat → World → Prop) (W : World) : Exit → Act → World → Prop
  | .normal, _, W' => KeepsFrom B W W' ∧ I (m + 1) W'
  | .ret, _, W' => KeepsFrom B W W' ∧ Ix m W'
  | _, _, _ => False
def recd (fn : FuncId) (a : Act) (q : Tmp) (assign body : Code) (D : Nat) (s : LoopState) (j : Option Code) : Loop :=
  { state := s, pending := j, fn := fn, tmps := a.tmps, params := #[q], assign := assign, body := body, defers := D }
structure Kept2 (W : World) (D : Nat) (r : Loop) : Prop where
  d : W.heap[D]? = some (.deferred (some []))
  l : W.heap[D + 1]? = some (.loop r)
theorem Kept2.keeps {W W' : World} {D B : Nat} {r : Loop} (h : Kept2 W D r) (k : KeepsFrom B W W') (hB : B ≤ D) : Kept2 W' D r :=
  ⟨k.same _ _ hB h.d rfl, k.same _ _ (by omega) h.l rfl⟩
theorem Kept2.set {W : World} {D : Nat} {r : Loop} (h : Kept2 W D r) (r' : Loop) : Kept2 (W.putObj (D + 1) (.loop r')) D r' :=
  ⟨(World.putObj_heap_other (by omega)).trans h.d, World.putObj_heap_same (Array.getElem?_eq_some_iff.1 h.l).1⟩

set_option maxHeartbeats 1000000 in
theorem range_places {n : Nat} (hn : 1 ≤ n) {g : Operand} {q : Tmp} {assign body : Code} {Q : Exit → Act → World → Prop} {a : Act} {w : World} (G off : Nat) (S : Nat → Bool)
    (hg : a.eval g = .func (.func 167) #[.pointer (some ⟨G, off, none⟩)] #[]) (I Ix : Nat → World → Prop) (hI : OwnFrom w.heap.size I) (hIx : OwnFrom w.heap.size Ix)
    (hn2 : 1 ≤ n - 1) (hC : ∀ m W, I m W → Tab W ∧ SetAt W G off S) (hs : ∀ m W, m < 1024 → S m = false → I m W → I (m + 1) W) (h0 : I 0 w) (a1 : Nat → Act)
    (hassign : ∀ (l m : Nat) (W : World) (K : Act → World → Prop), K (a1 m) W →
      assign.wpIn (Fence.wide.inRound l) (n - 1 - 1) Tryz.prog (Exit.then K (fun _ _ _ => False)) { tmps := a.tmps.setIfInBounds q (.int .i64 (m : Int)), defers := [] } W)
    (hbody : ∀ (l m : Nat) (W : World), m < 1024 → S m = true → I m W → body.wpIn (Fence.wide.inRound l) (n - 1 - 1) Tryz.prog (Round w.heap.size m I Ix W) (a1 m) W)
    (hdone : ∀ (D : Nat) (W : World), w.heap.size ≤ D → I 1024 W → W.heap[D]? = some (.deferred (some [])) → Q .normal { a with defers := { target := .collected D, args := #[] } :: a.defers } W)
    (hstop : ∀ (D m : Nat) (W : World), w.heap.size ≤ D → m < 1024 → S m = true → Ix m W → W.heap[D]? = some (.deferred (some [])) → Code.ret.wpIn Fence.wide n Tryz.prog Q { a with defers := { target := .collected D, args := #[] } :: a.defers } W) :
    (Code.rangeFunc g #[q] assign body).wpIn Fence.wide n Tryz.prog Q a w := by
  refine wpIn_rangeFunc fun fn _ => ?_
  obtain ⟨R, hR⟩ : ∃ R, R = recd fn a q assign body w.heap.size := ⟨_, rfl⟩
  obtain ⟨W1, hW1⟩ : ∃ W1, (w.alloc (.deferred (some []))).alloc (.loop (R .ready none)) = W1 := ⟨_, rfl⟩
  have k1 : Kept2 W1 w.heap.size (R .ready none) := by
    subst hW1
    refine ⟨(Below.heap_alloc _ _ _ (by simp)).trans (World.alloc_heap_new w _), ?_⟩
    have := World.alloc_heap_new (w.alloc (.deferred (some []))) (.loop (R .ready none))
    rwa [World.size_alloc] at this
  have i1 : I 0 W1 := by subst hW1; exact hI.alloc _ (hI.alloc _ h0)
  refine ⟨w.heap.size + 1, [{ target := .collected w.heap.size, args := #[] }], W1,
    { target := .fn (.func 167) #[], args := #[.pointer (some ⟨G, off, none⟩)] ++ #[.func (.yield (w.heap.size + 1)) #[] #[]] }, W1, 167,
    #[.pointer (some ⟨G, off, none⟩), .func (.yield (w.heap.size + 1)) #[] #[]], W1, ?_, ?_, fun _ _ => trivial, ?_, fun _ => hn, ?_⟩
  · rw [← hW1, hR]
    exact run_enterLoop_outer _ _ _ _ _
  · simp only [resolve, hg]
    simp [go_sem, Deferred.ofValue]
  · have e := enters_of Tryz.func167 (by kernel_rfl) rfl #[.pointer (some ⟨G, off, none⟩), .func (.yield (w.heap.size + 1)) #[] #[]] W1
    simp [invoke, go_sem, e]
  · -- a round, begun and ended
    have fin : ∀ (j : Option Code) (W : World), Kept2 W w.heap.size (R .busy none) →
        (Instr.endRound (w.heap.size + 1) j).run Tryz.prog W = .ok (.bool j.isNone) (W.putObj (w.heap.size + 1) (.loop (R (if j.isNone then .ready else .done) j))) := by
      intro j W h
      have := run_endRound (P := Tryz.prog) j h.l
      rw [hR] at this ⊢
      exact this
    refine (each_in (n - 1) hn2 (w.heap.size + 1) G off S (fun m W => I m W ∧ Kept2 W w.heap.size (R .ready none)) (fun m W => Ix m W ∧ Kept2 W w.heap.size (R .done (some .ret)))
      (fun m W h => hC m W h.1) (fun m W h1 h2 h3 => ⟨hs m W h1 h2 h3.1, h3.2⟩) ?_ W1 ⟨i1, k1⟩).mono ?_
    · rintro m W hm hS ⟨hi, hk⟩
      have hy := run_yield (P := Tryz.prog) (args := #[.int .i64 (m : Int)]) hk.l (by rw [hR]; rfl)
      rw [hR] at hy
      have hz : ((recd fn a q assign body w.heap.size .ready none).params.zip #[Value.int .i64 (m : Int)]).foldl (fun t (x : Tmp × Value) => t.setIfInBounds x.1 x.2) (recd fn a q assign body w.heap.size .ready none).tmps = a.tmps.setIfInBounds q (.int .i64 (m : Int)) := by simp [recd]
      have hy2 : (Instr.yield (w.heap.size + 1) #[.int .i64 (m : Int)]).run Tryz.prog W = .ok (.round (w.heap.size + 1) fn (a.tmps.setIfInBounds q (.int .i64 (m : Int))) assign body) W := by rw [← hz]; exact hy
      refine ⟨fn, _, assign, body, hy2, roundIn_of_wpIn trivial (hassign _ m W _ ?_)⟩
      refine ⟨_, run_beginRound hk.l (by rw [hR]; rfl), ?_⟩
      have hk2 : Kept2 (W.putObj (w.heap.size + 1) (.loop (R .busy none))) w.heap.size (R .busy none) := hk.set _
      have hb : ({ R .ready none with state := .busy } : Loop) = R .busy none := by rw [hR]; rfl
      rw [hb]
      refine wpIn_mono (hbody (w.heap.size + 1) m _ hm hS (hI.putObj _ hi (by omega) hk.l rfl)) ?_
      rintro e a3 W3 hp
      cases e with
      | normal =>
        obtain ⟨k3, i3⟩ := hp
        have h3 := hk2.keeps k3 (Nat.le_refl _)
        exact ⟨_, _, fin none W3 h3, .inl ⟨rfl, hI.putObj _ i3 (by omega) h3.l rfl, h3.set _⟩⟩
      | ret =>
        obtain ⟨k3, i3⟩ := hp
        have h3 := hk2.keeps k3 (Nat.le_refl _)
        exact ⟨_, _, fin (some .ret) W3 h3, .inr ⟨rfl, hIx.putObj _ i3 (by omega) h3.l rfl, h3.set _⟩⟩
      | exit id => exact hp.elim
      | goto t => exact hp.elim
      | panic c => exact hp.elim
      | outgrown => exact hp.elim
    · rintro e W2 ⟨⟨v, rfl⟩, (⟨hi, hk⟩ | ⟨m, hm, hS, hi, hk⟩)⟩
      · have := run_endLoop (P := Tryz.prog) hk.l (by rw [hR]; intro h; cases h)
        refine ⟨none, _, by rw [hR] at this; exact this, hdone _ _ (Nat.le_refl _) (hI.putObj _ hi (by omega) hk.l rfl) ?_⟩
        exact (World.putObj_heap_other (by omega)).trans hk.d
      · have := run_endLoop (P := Tryz.prog) hk.l (by rw [hR]; intro h; cases h)
        refine ⟨some .ret, _, by rw [hR] at this; exact this, hstop _ m _ (Nat.le_refl _) hm hS (hIx.putObj _ hi (by omega) hk.l rfl) ?_⟩
        exact (World.putObj_heap_other (by omega)).trans hk.d
end Go.Proofs.YtpocccnhibjjcaaGreatDoor.S8
/- A space in memory, and the least place of a set. Conditions: those named. -/
set_option linter.unusedVariables false
namespace Go.Proofs.YtpocccnhibjjcaaGreatDoor.S8
open Go.RowKit Go.Shelf

attribute [local go_sem] Oper.semAt_some

def spc (N : Nat) (F B : Nat → Bool) : List Value := .int .i64 (N : Int) :: ((List.range 16).map (fun i => W64 (wv F i)) ++ (List.range 16).map (fun i => W64 (wv B i)))
section
variable (N : Nat) (F B : Nat → Bool)
theorem spc_len : (spc N F B).length = 33 := by simp [spc]
theorem spc_num : (spc N F B)[0]? = some (.int .i64 (N : Int)) := rfl
theorem spc_free {i : Nat} (h : i < 16) : (spc N F B)[1 + i]? = some (W64 (wv F i)) := by
  unfold spc
  rw [Nat.add_comm, List.getElem?_cons_succ, List.getElem?_append_left (by simpa using h)]
  simp [h]
theorem spc_back {i : Nat} (h : i < 16) : (spc N F B)[17 + i]? = some (W64 (wv B i)) := by
  unfold spc
  rw [show 17 + i = (16 + i) + 1 by omega, List.getElem?_cons_succ, List.getElem?_append_right (by simp)]
  simp [h]
theorem wv_put (a i : Nat) (b : Bool) : wv (put F a b) i = if i = a / 64 then num 64 (put (fun j => F (64 * (a / 64) + j)) (a % 64) b) else wv F i := by
  split
  · rename_i h
    subst h
    rw [wv_eq]
    refine num_congr 64 fun j hj => ?_
    unfold put
    by_cases e : j = a % 64
    · rw [if_pos (by omega), if_pos e]
    · rw [if_neg (by omega), if_neg e]
  · rename_i h
    rw [wv_eq, wv_eq]
    refine num_congr 64 fun j hj => ?_
    unfold put
    rw [if_neg (by omega)]
theorem set_map {f h : Nat → Value} {i : Nat} (hi : i < 16) (e : ∀ j, j < 16 → h j = if j = i then h i else f j) : ((List.range 16).map f).set i (h i) = (List.range 16).map h := by
  apply List.ext_getElem?
  intro j
  rw [List.getElem?_set]
  by_cases hj : j < 16
  · by_cases e1 : i = j
    · subst e1
      simp [hi]
    · rw [if_neg e1]
      have := e j hj
      rw [if_neg (Ne.symm e1)] at this
      simp [hj, this]
  · rw [List.getElem?_eq_none (by simp; omega), List.getElem?_eq_none (by simp; omega)]
    split <;> simp
    omega
theorem spc_setF {a : Nat} (b : Bool) (h : a < 1024) : (spc N F B).set (1 + a / 64) (W64 (num 64 (put (fun j => F (64 * (a / 64) + j)) (a % 64) b))) = spc N (put F a b) B := by
  have hw := wv_put F a (a / 64) b
  rw [if_pos rfl] at hw
  rw [← hw]
  unfold spc
  rw [Nat.add_comm, List.set_cons_succ, List.set_append_left _ _ (by simp; omega)]
  rw [set_map (f := fun i => W64 (wv F i)) (h := fun i => W64 (wv (put F a b) i)) (by omega) (fun j hj => by
    by_cases e : j = a / 64
    · rw [if_pos e, e]
    · rw [if_neg e, wv_put, if_neg e])]
theorem spc_setB {a : Nat} (b : Bool) (h : a < 1024) : (spc N F B).set (17 + a / 64) (W64 (num 64 (put (fun j => B (64 * (a / 64) + j)) (a % 64) b))) = spc N F (put B a b) := by
  have hw := wv_put B a (a / 64) b
  rw [if_pos rfl] at hw
  rw [← hw]
  unfold spc
  rw [show 17 + a / 64 = (16 + a / 64) + 1 by omega, List.set_cons_succ, List.set_append_right _ _ (by simp)]
  simp only [List.length_map, List.length_range, Nat.add_sub_cancel_left]
  rw [set_map (f := fun i => W64 (wv B i)) (h := fun i => W64 (wv (put B a b) i)) (by omega) (fun j hj => by
    by_cases e : j = a / 64
    · rw [if_pos e, e]
    · rw [if_neg e, wv_put, if_neg e])]
end
attribute [irreducible] spc

abbrev SpAt (w : World) (g N : Nat) (F B : Nat → Bool) : Prop := Row w g 123 (spc N F B)
theorem spf_at {w : World} {g N : Nat} {F B : Nat → Bool} (h : SpAt w g N F B) : SetAt w g 1 F := fun i hi => by rw [h.cell, spc_free N F B hi]
theorem spb_at {w : World} {g N : Nat} {F B : Nat → Bool} (h : SpAt w g N F B) : SetAt w g 17 B := fun i hi => by rw [h.cell, spc_back N F B hi]

theorem none_next {S : Nat → Bool} {m : Nat} (h1 : S m = false) (h2 : ∀ j, j < m → S j = false) : ∀ j, j < m + 1 → S j = false := by
  intro j hj
  by_cases e : j = m
  · rw [e]; exact h1
  · exact h2 j (by omega)

set_option maxRecDepth 100000 in
set_option maxHeartbeats 4000000 in
theorem least_any (g off : Nat) (S : Nat → Bool) (w : World) (hS : SetAt w g off S) (hT : Tab w) (hg : g < w.heap.size) :
    Calls Tryz.prog 143 #[.pointer (some ⟨g, off, none⟩)] w fun e w' => Below w.heap.size w w' ∧
      ((∃ m, m < 1024 ∧ S m = true ∧ (∀ j, j < m → S j = false) ∧ e = .returned (.tuple #[.int .i64 (m : Int), .bool true])) ∨
        ((∀ j, j < 1024 → S j = false) ∧ e = .returned (.tuple #[.int .i64 0, .bool false]))) := by
  have HS := Lib.hid hS
  have HT := Lib.hid hT
  clear hS hT
  refine (callsIn_wide (n := 3)).1 ?_
  refine callsIn_of_wp_marks Tryz.func143 rfl trivial ?_ rfl
  simp only [Tryz.ntmps143, List.size_toArray, List.length_cons, List.length_nil, Nat.reduceAdd, Nat.reduceSub, Array.replicate_succ, Array.replicate_zero, List.push_toArray, List.append_toArray, List.nil_append, List.cons_append]
  gi_wp2
  have bI := (Boxed.new w 3 (.int .i64 0)).alloc (.cells #[.bool false] 4)
  have bB := Boxed.new (w.alloc (.cells #[.int .i64 0] 3)) 4 (.bool false)
  simp only [World.size_alloc] at bB
  have hB0 : Below w.heap.size w ((w.alloc (.cells #[.int .i64 0] 3)).alloc (.cells #[.bool false] 4)) := ((Below.refl _ w).alloc (Nat.le_refl _) _).alloc (by simp) _
  have hsz : ((w.alloc (.cells #[.int .i64 0] 3)).alloc (.cells #[.bool false] 4)).heap.size = w.heap.size + 2 := by simp
  obtain ⟨W0, hW0⟩ : ∃ W0, (w.alloc (.cells #[.int .i64 0] 3)).alloc (.cells #[.bool false] 4) = W0 := ⟨_, rfl⟩
  rw [hW0] at bI bB hB0 hsz ⊢
  clear hW0
  have HSZ := Lib.hid hsz
  have hcell : ∀ i, i < 16 → w.cell? ⟨g, off + i, none⟩ = some (W64 (wv S i)) := HS.out
  refine range_places (by omega) g off S rfl
    (fun m W => (∀ j, j < m → S j = false) ∧ Below W0.heap.size W0 W)
    (fun m W => (∀ j, j < m → S j = false) ∧ (Boxed W w.heap.size 3 (.int .i64 (m : Int)) ∧ Boxed W (w.heap.size + 1) 4 (.bool true)) ∧ Below w.heap.size w W)
    (OwnFrom.and (ownFrom_pure _ _) (ownFrom_below (Nat.le_refl _) (Nat.le_refl _)))
    (OwnFrom.and (ownFrom_pure _ _) (OwnFrom.and (OwnFrom.and (Own.from (boxed_own w.heap.size 3 (fun (m : Nat) => Value.int .i64 (m : Int))) _) (Own.from (boxed_own (w.heap.size + 1) 4 (fun (_ : Nat) => Value.bool true)) _)) (ownFrom_below (Nat.le_refl _) (by omega))))
    (by omega)
    (fun m W ⟨_, hb⟩ => ⟨(HT.out.below hB0 HT.out.lt).below hb (Nat.lt_of_lt_of_le HT.out.lt (by rw [hsz]; exact Nat.le_add_right _ _)), fun i hi => ((hB0.trans (hb.mono (by omega))).cell (p := ⟨g, off + i, none⟩) hg).trans (hcell i hi)⟩)
    (fun m W _ h1 h2 => ⟨none_next h1 h2.1, h2.2⟩)
    ⟨fun j hj => absurd hj (Nat.not_lt_zero _), Below.refl _ _⟩
    (fun m => { tmps := #[.pointer (some ⟨g, off, none⟩), undef, .pointer (some ⟨w.heap.size, 0, none⟩), .pointer (some ⟨w.heap.size + 1, 0, none⟩), .int .i64 (m : Int), .pointer (some ⟨g, off, none⟩), .func (.func 167) #[.pointer (some ⟨g, off, none⟩)] #[], .int .i64 (m : Int), undef], defers := [] })
    ?assign ?body ?done ?stop
  case assign =>
    intro l m W K hK
    gi_wp2
    exact hK
  case body =>
    rintro l m W hm hSm ⟨hp, hB1⟩
    have bI1 : Boxed W w.heap.size 3 (.int .i64 0) := (hB1.block _ bI.lt).trans bI
    have bB1 : Boxed W (w.heap.size + 1) 4 (.bool false) := (hB1.block _ bB.lt).trans bB
    have cI := bI1.cell
    have fI := bI1.frozen
    have bB2 := bB1.other (B' := w.heap.size) (by omega) (.int .i64 (m : Int))
    have cB := bB2.cell
    have fB := bB2.frozen
    have HP := Lib.hid hp
    have HB1 := Lib.hid hB1
    clear hp hB1
    gi_wp2
    exact ⟨((KeepsOthers.setCell _ _ _).trans (KeepsOthers.setCell _ _ _)).from _, HP.out, ⟨(bI1.set _).other (by omega) _, bB2.set _⟩,
      ((hB0.trans (HB1.out.mono (by have := HSZ.out; omega))).setCell (p := ⟨w.heap.size, 0, none⟩) (Nat.le_refl _) _).setCell (p := ⟨w.heap.size + 1, 0, none⟩) (Nat.le_succ _) _⟩
  case done =>
    rintro D W hD ⟨hp, hB1⟩ hK
    have bI1 : Boxed W w.heap.size 3 (.int .i64 0) := (hB1.block _ bI.lt).trans bI
    have bB1 : Boxed W (w.heap.size + 1) 4 (.bool false) := (hB1.block _ bB.lt).trans bB
    have cI := bI1.cell
    have fI := bI1.frozen
    have bB2 := bB1.other (B' := w.heap.size) (by omega) (.int .i64 0)
    have cB := bB2.cell
    have fB := bB2.frozen
    have HP := Lib.hid hp
    have HB1 := Lib.hid hB1
    have HKD := Lib.hid hK
    have HD := Lib.hid hD
    clear hp hB1 hK hD
    gi_wp2
    have hK' := ((KeepsOthers.setCell W ⟨w.heap.size, 0, none⟩ (.int .i64 0)).trans (KeepsOthers.setCell _ ⟨w.heap.size + 1, 0, none⟩ (.bool false))).same D _ HKD.out rfl
    refine ⟨by simp, .inl ⟨_, _, rfl, run_takeDeferred hK', ?_⟩⟩
    have hc5 := cell_kept ((bI1.set (.int .i64 0)).other (B' := w.heap.size + 1) (by omega) (.bool false)).cell (grownBy_putObj' _ D (.deferred none)) (fun r e => by cases e; exact ⟨_, hK', rfl⟩)
    have hc6 := cell_kept (bB2.set (.bool false)).cell (grownBy_putObj' _ D (.deferred none)) (fun r e => by cases e; exact ⟨_, hK', rfl⟩)
    refine ⟨.tuple #[.int .i64 0, .bool false], ?_, (((hB0.trans (HB1.out.mono (by have := HSZ.out; omega))).setCell (p := ⟨w.heap.size, 0, none⟩) (Nat.le_refl _) _).setCell (p := ⟨w.heap.size + 1, 0, none⟩) (Nat.le_succ _) _).trans (belowK_b (w := w) (Nat.le_refl _) _ D _ _ (by have := HD.out; have := HSZ.out; omega) hK' rfl rfl), .inr ⟨HP.out, rfl⟩⟩
    simp [results, Tryz.f143, go_sem, hc5, hc6]
  case stop =>
    rintro D m W hD hm hSm ⟨hp, ⟨b1, b2⟩, hB1⟩ hK
    have HD := Lib.hid hD
    have HB1 := Lib.hid hB1
    have HKD := Lib.hid hK
    have HP := Lib.hid hp
    clear hD hB1 hK hp
    gi_wp2
    refine ⟨by simp, .inl ⟨_, _, rfl, run_takeDeferred HKD.out, ?_⟩⟩
    have hc5 := cell_kept b1.cell (grownBy_putObj' _ D (.deferred none)) (fun r e => by cases e; exact ⟨_, HKD.out, rfl⟩)
    have hc6 := cell_kept b2.cell (grownBy_putObj' _ D (.deferred none)) (fun r e => by cases e; exact ⟨_, HKD.out, rfl⟩)
    refine ⟨.tuple #[.int .i64 (m : Int), .bool true], ?_, HB1.out.trans (belowK_b (w := w) (Nat.le_refl _) W D _ _ (by have := HD.out; have := HSZ.out; omega) HKD.out rfl rfl), .inl ⟨m, hm, hSm, HP.out, rfl⟩⟩
    simp [results, Tryz.f143, go_sem, hc5, hc6]
end Go.Proofs.YtpocccnhibjjcaaGreatDoor.S8
/- A space settles: all that was given back is free. Conditions: those named. -/
set_option linter.unusedVariables false
namespace Go.Proofs.YtpocccnhibjjcaaGreatDoor.S8
open Go.RowKit Go.Shelf

attribute [local go_sem] Oper.semAt_some

theorem in_store_mid {F : Fence} {n : Nat} {P : Program} {ops : Array Oper} {rest : List Oper} {o : Oper} {a : Act} {w : World} {Q : Exit → Act → World → Prop} (hgd : o.guard = none) (ty : TypeId) (x y : Operand) (ho : o.op = .store ty x y)
    (b off : Nat) (cells : Array Value) (hx : a.eval x = .pointer (some ⟨b, off, none⟩)) (hy : a.eval y = .agg cells)
    (ht : w.there b off cells.size) (hi : (P.info? ty).map (·.size) = some cells.size) (h1 : cells.all (·.oneCell') = true)
    (h : ∀ w', Hid (w' = w.setCells b off cells.toList) → wpListIn F n P ops Q rest (a.put o.dst undef) w') : wpListIn F n P ops Q (o :: rest) a w := by
  refine wpListIn_plain hgd fun K hK => ?_
  have e := run_storeAt_mid (P := P) w b off ty cells ht hi h1
  unfold Oper.wpIn
  refine ⟨?_, ?_⟩
  · simp [Oper.about, ho]
  · rw [Oper.semAt_plain F _ _ (by rw [ho]; intro c hc'; cases hc')]
    simp [execOp, ho, hx, hy, e, Result.andThen]
    exact hK _ _ (h _ (Lib.hid rfl))

theorem in_build {F : Fence} {n : Nat} {P : Program} {ops : Array Oper} {rest : List Oper} {o : Oper} {a : Act} {w : World} {Q : Exit → Act → World → Prop} (hgd : o.guard = none) (t : TypeId) (parts : Array (Nat × Operand)) (ho : o.op = .build t parts)
    (vs : Array (Nat × Value)) (hv : (parts.map fun (i, x) => (i, a.eval x)) = vs) (cells : Array Value) (hb : P.built t vs.toList = some cells)
    (h : wpListIn F n P ops Q rest (a.put o.dst (.agg cells)) w) : wpListIn F n P ops Q (o :: rest) a w := by
  refine wpListIn_plain hgd fun K hK => ?_
  have e := run_build (P := P) w t vs cells hb
  unfold Oper.wpIn
  refine ⟨?_, ?_⟩
  · simp [Oper.about, ho]
  · rw [Oper.semAt_plain F _ _ (by rw [ho]; intro c hc'; cases hc')]
    simp only [execOp, ho, hv]
    simp [e, Result.andThen]
    exact hK _ _ h

def sets : List Value → Nat → List Value → List Value
  | cs, _, [] => cs
  | cs, o, v :: r => sets (cs.set o v) (o + 1) r
theorem Row.sets {g : Nat} {t : TypeId} : ∀ (vs : List Value) {cs : List Value} {w : World} (o : Nat), Row w g t cs → Row (w.setCells g o vs) g t (sets cs o vs)
  | [], _, _, _, h => h
  | v :: r, cs, w, o, h => Row.sets r (o + 1) (h.put o v)
theorem sets_len : ∀ (vs : List Value) (cs : List Value) (o : Nat), (sets cs o vs).length = cs.length
  | [], _, _ => rfl
  | v :: r, cs, o => by rw [sets, sets_len r, List.length_set]
theorem sets_out : ∀ (vs : List Value) (cs : List Value) (o j : Nat), (j < o ∨ o + vs.length ≤ j) → (sets cs o vs)[j]? = cs[j]?
  | [], _, _, _, _ => rfl
  | v :: r, cs, o, j, h => by
    rw [List.length_cons] at h
    rw [sets, sets_out r _ _ _ (by omega), List.getElem?_set, if_neg (by omega)]
theorem sets_in : ∀ (vs : List Value) (cs : List Value) (o j : Nat), j < vs.length → o + vs.length ≤ cs.length → (sets cs o vs)[o + j]? = vs[j]?
  | [], _, _, _, h, _ => absurd h (Nat.not_lt_zero _)
  | v :: r, cs, o, 0, _, h2 => by
    rw [List.length_cons] at h2
    rw [sets, sets_out r _ _ _ (by omega), Nat.add_zero, List.getElem?_set, if_pos rfl, if_pos (by omega)]
    rfl
  | v :: r, cs, o, j + 1, h, h2 => by
    rw [List.length_cons] at h h2
    rw [sets, show o + (j + 1) = (o + 1) + j by omega, sets_in r _ _ _ (by omega) (by rw [List.length_set]; omega)]
    rfl
theorem grown_sets {g : Nat} : ∀ (vs : List Value) (w : World) (o : Nat), w.grownBy (w.setCells g o vs) (some g)
  | [], w, _ => ⟨rfl, rfl, rfl, Nat.le_refl _, fun _ _ _ => rfl⟩
  | v :: r, w, o => grown_trans (grown_set w ⟨g, o, none⟩ v) (grown_sets r _ _)
theorem spc_of {N : Nat} {F B : Nat → Bool} {l : List Value} (hl : l.length = 33) (h0 : l[0]? = some (.int .i64 (N : Int))) (h1 : ∀ i, i < 16 → l[1 + i]? = some (W64 (wv F i))) (h2 : ∀ i, i < 16 → l[17 + i]? = some (W64 (wv B i))) : l = spc N F B := by
  apply List.ext_getElem?
  intro j
  by_cases e0 : j = 0
  · rw [e0, h0, spc_num]
  · by_cases e1 : j < 17
    · obtain ⟨i, rfl⟩ : ∃ i, j = 1 + i := ⟨j - 1, by omega⟩
      rw [h1 i (by omega), spc_free N F B (by omega)]
    · by_cases e2 : j < 33
      · obtain ⟨i, rfl⟩ : ∃ i, j = 17 + i := ⟨j - 17, by omega⟩
        rw [h2 i (by omega), spc_back N F B (by omega)]
      · rw [List.getElem?_eq_none (by omega), List.getElem?_eq_none (by rw [spc_len]; omega)]
theorem wv_none (i : Nat) : wv (fun _ => false) i = 0 := by rw [wv_eq]; exact num_zero 64 (fun _ _ => rfl)
theorem spc_clear (N : Nat) (F B : Nat → Bool) : sets (spc N F B) 17 (List.replicate 16 (W64 0)) = spc N F (fun _ => false) := by
  refine spc_of (by rw [sets_len, spc_len]) (by rw [sets_out _ _ _ _ (by omega), spc_num]) (fun i hi => by rw [sets_out _ _ _ _ (by omega), spc_free N F B hi]) (fun i hi => ?_)
  rw [sets_in _ _ _ _ (by simpa using hi) (by rw [spc_len]; simp), wv_none, List.getElem?_replicate, if_pos hi]

def uF (F B : Nat → Bool) (m : Nat) : Nat → Bool := fun j => F j || (decide (j < m) && B j)
theorem uF_zero (F B : Nat → Bool) : uF F B 0 = F := by funext j; simp [uF]
theorem uF_put {F B : Nat → Bool} {m : Nat} (h : B m = true) : put (uF F B m) m true = uF F B (m + 1) := by
  funext j
  unfold put uF
  by_cases e : j = m
  · rw [if_pos e, e, h]; simp
  · rw [if_neg e]
    have : decide (j < m) = decide (j < m + 1) := by rw [decide_eq_decide]; omega
    rw [this]
theorem uF_skip {F B : Nat → Bool} {m : Nat} (h : B m = false) : uF F B (m + 1) = uF F B m := by
  funext j
  unfold uF
  by_cases e : j = m
  · rw [e, h]; simp
  · have : decide (j < m) = decide (j < m + 1) := by rw [decide_eq_decide]; omega
    rw [this]
theorem row_own {β : Type} (g : Nat) (t : TypeId) (f : β → List Value) : Own (fun s W => Row W g t (f s)) := fun s X Y row hs hg hr => by
  have h : X.heap[g]? = some (.cells (f s).toArray t (0, 0)) := hs
  exact (grownBy_keeps_cells hg hr h rfl).trans h
theorem ownFrom_up {β : Type} {B g : Nat} {w : World} (hB : w.heap.size ≤ B) : OwnFrom B (fun (_ : β) W => w.grownBy W (some g)) := fun _ X Y row hs hg hr =>
  ⟨hg.os.trans hs.os, hg.tape.trans hs.tape, hg.output.trans hs.output, Nat.le_trans hs.size hg.size, fun k hk hne => (hg.block k (Nat.lt_of_lt_of_le hk hs.size) (fun e => by have := (hr k e.symm).1; omega)).trans (hs.block k hk hne)⟩

theorem cleared {W w6 : World} {g N : Nat} {F B : Nat → Bool} (h : SpAt W g N F B) {L : List Value} (hL : L = List.replicate 16 (W64 0)) (e : w6 = W.setCells g 17 L) : SpAt w6 g N F (fun _ => false) ∧ W.grownBy w6 (some g) := by
  subst e
  have h1 := Row.sets L 17 h
  rw [hL, spc_clear, ← hL] at h1
  exact ⟨h1, grown_sets _ _ _⟩
theorem keeps_row {W w6 : World} {g : Nat} {t : TypeId} {cs : List Value} (h : Row W g t cs) (k : W.grownBy w6 (some g)) : KeepsOthers W w6 :=
  KeepsOthers.of_grownBy k (fun j o e ho => by
    have e2 : g = j := Option.some.inj e
    rw [← e2, h.heap] at ho
    rw [← Option.some.inj ho]
    rfl)
theorem up_far {g : Nat} {w W : World} (h : w.grownBy W (some g)) {p : Addr} (hp : w.heap.size ≤ p.block) (u : Value) : w.grownBy (W.setCell p u) (some g) :=
  ⟨h.os, h.tape, h.output, Nat.le_trans h.size (by simp [World.setCell]), fun k hk hne => (Below.heap_setCell _ _ _ _ (by omega)).trans (h.block k hk hne)⟩
theorem up_obj {g : Nat} {w W : World} (h : w.grownBy W (some g)) {D : Nat} (hD : w.heap.size ≤ D) (o : Obj) : w.grownBy (W.putObj D o) (some g) :=
  ⟨h.os, h.tape, h.output, Nat.le_trans h.size (by simp), fun k hk hne => (World.putObj_heap_other (by omega)).trans (h.block k hk hne)⟩
def zer16 : Array Value := #[.int .u64 0, .int .u64 0, .int .u64 0, .int .u64 0, .int .u64 0, .int .u64 0, .int .u64 0, .int .u64 0, .int .u64 0, .int .u64 0, .int .u64 0, .int .u64 0, .int .u64 0, .int .u64 0, .int .u64 0, .int .u64 0]
theorem zer16_list : zer16.toList = List.replicate 16 (W64 0) := rfl
theorem zeros16 : (zer16.all (·.oneCell')) = true := all_oneCell_toArray (cs := List.replicate 16 (W64 0)) (fun v hv => by rw [List.eq_of_mem_replicate hv]; rfl)

set_option maxRecDepth 100000 in
set_option maxHeartbeats 4000000 in
theorem settle_any (g N : Nat) (F B : Nat → Bool) (w : World) (h : SpAt w g N F B) (hT : Tab w) (hTg : 2 ≠ g) :
    Calls Tryz.prog 145 #[.pointer (some ⟨g, 0, none⟩)] w fun e w' => e = .returned (.int .i64 (cnt 1024 B : Int)) ∧ SpAt w' g N (uF F B 1024) (fun _ => false) ∧ w.grownBy w' (some g) := by
  have HS := Lib.hid h
  have HT := Lib.hid hT
  have hg := h.lt
  clear h hT
  refine (callsIn_wide (n := 3)).1 ?_
  refine callsIn_of_wp_marks Tryz.func145 rfl trivial ?_ rfl
  simp only [Tryz.ntmps145, List.size_toArray, List.length_cons, List.length_nil, Nat.reduceAdd, Nat.reduceSub, Array.replicate_succ, Array.replicate_zero, List.push_toArray, List.append_toArray, List.nil_append, List.cons_append]
  gi_wp2
  have bS := (Boxed.new w 79 (.pointer (some ⟨g, 0, none⟩))).alloc (.cells #[.int .i64 0] 3)
  have bN := Boxed.new (w.alloc (.cells #[.pointer (some ⟨g, 0, none⟩)] 79)) 3 (.int .i64 0)
  simp only [World.size_alloc] at bN
  have hB0 : Below w.heap.size w ((w.alloc (.cells #[.pointer (some ⟨g, 0, none⟩)] 79)).alloc (.cells #[.int .i64 0] 3)) := ((Below.refl _ w).alloc (Nat.le_refl _) _).alloc (by simp) _
  have hsz : ((w.alloc (.cells #[.pointer (some ⟨g, 0, none⟩)] 79)).alloc (.cells #[.int .i64 0] 3)).heap.size = w.heap.size + 2 := by simp
  obtain ⟨W0, hW0⟩ : ∃ W0, (w.alloc (.cells #[.pointer (some ⟨g, 0, none⟩)] 79)).alloc (.cells #[.int .i64 0] 3) = W0 := ⟨_, rfl⟩
  rw [hW0] at bS bN hB0 hsz ⊢
  clear hW0
  have HSZ := Lib.hid hsz
  refine range_places (by omega) g 17 B rfl
    (fun m W => SpAt W g N (uF F B m) B ∧ (Boxed W w.heap.size 79 (.pointer (some ⟨g, 0, none⟩)) ∧ Boxed W (w.heap.size + 1) 3 (.int .i64 (cnt m B : Int))) ∧ w.grownBy W (some g))
    (fun m W => False)
    (OwnFrom.and (Own.from (row_own g 123 (fun m => spc N (uF F B m) B)) _) (OwnFrom.and (OwnFrom.and (Own.from (boxed_own w.heap.size 79 (fun (_ : Nat) => Value.pointer (some ⟨g, 0, none⟩))) _) (Own.from (boxed_own (w.heap.size + 1) 3 (fun (m : Nat) => Value.int .i64 (cnt m B : Int))) _)) (ownFrom_up (by rw [hsz]; omega))))
    (ownFrom_pure _ _)
    (by omega)
    (fun m W ⟨h1, _, h2⟩ => ⟨HT.out.grown h2 hTg, spb_at h1⟩)
    (fun m W _ h1 h2 => by
      have e : cnt (m + 1) B = cnt m B := by rw [cnt_succ, h1]; rfl
      rw [uF_skip h1, e]
      exact h2)
    ⟨by rw [uF_zero]; exact HS.out.kept hB0, ⟨bS, by rw [cnt_zero]; exact bN⟩, grown_of_below hB0⟩
    (fun m => { tmps := #[.pointer (some ⟨g, 0, none⟩), .pointer (some ⟨w.heap.size, 0, none⟩), .int .i64 0, .pointer (some ⟨w.heap.size + 1, 0, none⟩), .int .i64 (m : Int), .pointer (some ⟨g, 0, none⟩), .bool false, .pointer (some ⟨g, 0, none⟩), .pointer (some ⟨g, 0, none⟩), .pointer (some ⟨g, 17, none⟩), .func (.func 167) #[.pointer (some ⟨g, 17, none⟩)] #[], .int .i64 (m : Int), undef, undef, undef, undef, undef, undef, undef, undef, undef, undef, undef, undef], defers := [] })
    ?assign ?body ?done (fun _ _ _ _ _ _ h => h.elim)
  case assign =>
    intro l m W K hK
    gi_wp2
    exact hK
  case body =>
    rintro l m W hm hBm ⟨h1, ⟨b1, b2⟩, h2⟩
    have cS := b1.cell
    have e1 : cnt (m + 1) B = cnt m B + 1 := by rw [cnt_succ, hBm]; rfl
    have e2 := cnt_le m B
    obtain ⟨c, hc⟩ : ∃ c, cnt m B = c := ⟨_, rfl⟩
    rw [hc] at b2 e1 e2
    have e3 : wrap64 ((c : Int) + 1) = (c : Int) + 1 := by unfold wrap64; omega
    have hx : (spc N (uF F B m) B)[1 + m / 64]? = some (W64 (num 64 (fun j => uF F B m (64 * (m / 64) + j)))) := by rw [spc_free _ _ _ (by omega), wv_eq]
    have HX := Lib.hid hx
    have H1 := Lib.hid h1
    have H2 := Lib.hid h2
    have HB1 := Lib.hid b1
    have HB2 := Lib.hid b2
    have HM := Lib.hid (p := m < 1024 ∧ B m = true ∧ cnt (m + 1) B = c + 1) ⟨hm, hBm, e1⟩
    clear hx h1 h2 b1 b2 hm hBm e1 e2 hc
    gi_wp2_with (refine ⟨trivial, ?_⟩; gi_at_call 65; refine (CallsIn.inRound l (callsIn_wide.2 (add_any (a := m) (off := 1) H1.out HM.out.1 HX.out))).mono ?_; rintro e w5 ⟨⟨v5, rfl⟩, hr5, hg5⟩; have b25 := Lib.hid (HB2.out.kept hg5 (by intro e; injection e; omega)); have b15 := Lib.hid (HB1.out.kept hg5 (by intro e; injection e; omega)); have c25 := b25.out.cell; have f25 := b25.out.frozen; have HR5 := Lib.hid hr5; have HG5 := Lib.hid hg5; clear hr5 hg5)
    have HG7 := Lib.hid (KeepsFrom.of_grownBy (B := W0.heap.size) HG5.out (fun j e => by injection e; have := HSZ.out; omega))
    refine ⟨HG7.out.trans ((KeepsOthers.setCell _ _ _).from _), ?_, ⟨b15.out.other (by omega) _, ?_⟩, up_far (grown_trans H2.out HG5.out) (Nat.le_succ _) _⟩
    · have hr := HR5.out
      rw [spc_setF _ _ _ true HM.out.1, uF_put HM.out.2.1] at hr
      exact hr.far (by show g ≠ w.heap.size + 1; omega) _
    · rw [HM.out.2.2]
      exact b25.out.set _
  case done =>
    rintro D W hD ⟨h1, ⟨b1, b2⟩, h2⟩ hK
    have cS := b1.cell
    obtain ⟨c, hc⟩ : ∃ c, cnt 1024 B = c := ⟨_, rfl⟩
    rw [hc] at b2
    have HN := Lib.hid b2
    have HC := Lib.hid hc
    have H1 := Lib.hid h1
    have H2 := Lib.hid h2
    have HKD := Lib.hid hK
    have HD := Lib.hid hD
    have HTH := Lib.hid (h1.is_there 17 16 (by rw [spc_len]; decide))
    have HI := Lib.hid (p := (Tryz.prog.info? 121).map (·.size) = some zer16.size) (by kernel_rfl)
    have HZB := Lib.hid (p := Tryz.prog.built 121 [] = some zer16) (by kernel_rfl)
    clear h1 h2 hK hD hc b1 b2
    gi_wp2_with (first | (refine in_build rfl 121 #[] rfl #[] rfl zer16 HZB.out ?_) | (refine in_store_mid rfl 121 _ _ rfl g 17 zer16 rfl rfl HTH.out HI.out zeros16 ?_; intro w6 e6; have h6 := cleared H1.out zer16_list e6.out; have HA := Lib.hid h6.1; have HGS := Lib.hid h6.2; have cN : w6.cell? ⟨w.heap.size + 1, 0, none⟩ = some (.int .i64 (c : Int)) := (HN.out.kept HGS.out (by intro e; injection e; omega)).cell; clear h6 e6))
    have hK' := (keeps_row H1.out HGS.out).same D _ HKD.out rfl
    refine ⟨by simp, .inl ⟨_, _, rfl, run_takeDeferred hK', ?_⟩⟩
    refine ⟨.int .i64 (c : Int), ?_, by rw [HC.out], (row_own g 123 (fun (_ : Unit) => spc N (uF F B 1024) fun _ => false)) () _ _ (some D) HA.out (grownBy_putObj' _ D (.deferred none)) (fun r e => by cases e; exact ⟨_, hK', rfl⟩), up_obj (grown_trans H2.out HGS.out) (by have := HD.out; have := HSZ.out; omega) _⟩
    simp [results, Tryz.f145, go_sem]
end Go.Proofs.YtpocccnhibjjcaaGreatDoor.S8
