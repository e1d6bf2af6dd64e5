/- A loop over the places of a set, told by a method of the set (a range over a method's value): what the loop leaves, from what its body leaves. Conditions: those named. -/
import Derived.Test.YtkmnmmenjpkkpaaDoorSe
set_option linter.unusedVariables false
namespace Go.Proofs.YtkmnmmenjpkkpaaDoor
open Go.RowKit Go.Shelf

/-- How a round ends here: it goes on, or it returns. -/
def Round (B m : Nat) (I Ix : Nat → World → Prop) (W : World) : Exit → Act → World → Prop
  | .normal, _, W' => KeepsFrom B W W' ∧ I (m + 1) W'
  | .ret, _, W' => KeepsFrom B W W' ∧ Ix m W'
  | _, _, _ => False
/-- The loop's own record, as it stands between two rounds (or, left, with what is to be done). -/
def recd (fn : FuncId) (a : Act) (q : Tmp) (assign body : Code) (D : Nat) (s : LoopState) (j : Option Code) : Loop :=
  { state := s, pending := j, fn := fn, tmps := a.tmps, params := #[q], assign := assign, body := body, defers := D }
/-- The loop's two blocks. -/
structure Kept2 (W : World) (D : Nat) (r : Loop) : Prop where
  d : W.heap[D]? = some (.deferred (some []))
  l : W.heap[D + 1]? = some (.loop r)
theorem Kept2.keeps {W W' : World} {D B : Nat} {r : Loop} (h : Kept2 W D r) (k : KeepsFrom B W W') (hB : B ≤ D) : Kept2 W' D r :=
  ⟨k.same _ _ hB h.d rfl, k.same _ _ (by omega) h.l rfl⟩
theorem Kept2.set {W : World} {D : Nat} {r : Loop} (h : Kept2 W D r) (r' : Loop) : Kept2 (W.putObj (D + 1) (.loop r')) D r' :=
  ⟨(World.putObj_heap_other (by omega)).trans h.d, World.putObj_heap_same (Array.getElem?_eq_some_iff.1 h.l).1⟩

set_option maxHeartbeats 1000000 in
theorem range_places {n : Nat} (hn : 1 ≤ n) {g : Operand} {q : Tmp} {assign body : Code} {Q : Exit → Act → World → Prop} {a : Act} {w : World} (G off : Nat) (S : Nat → Bool)
    (hg : a.eval g = .func (.func 27) #[.pointer (some ⟨G, off, none⟩)] #[]) (I Ix : Nat → World → Prop) (hI : OwnFrom w.heap.size I) (hIx : OwnFrom w.heap.size Ix)
    (hn2 : 1 ≤ n - 1) (hC : ∀ m W, I m W → Tab W ∧ SetAt W G off S) (hs : ∀ m W, m < 1024 → S m = false → I m W → I (m + 1) W) (h0 : I 0 w) (a1 : Nat → Act)
    (hassign : ∀ (l m : Nat) (W : World) (K : Act → World → Prop), K (a1 m) W →
      assign.wpIn (Fence.wide.inRound l) (n - 1 - 1) Tryd.prog (Exit.then K (fun _ _ _ => False)) { tmps := a.tmps.setIfInBounds q (.int .i64 (m : Int)), defers := [] } W)
    (hbody : ∀ (l m : Nat) (W : World), m < 1024 → S m = true → I m W → body.wpIn (Fence.wide.inRound l) (n - 1 - 1) Tryd.prog (Round w.heap.size m I Ix W) (a1 m) W)
    (hdone : ∀ (D : Nat) (W : World), w.heap.size ≤ D → I 1024 W → W.heap[D]? = some (.deferred (some [])) → Q .normal { a with defers := { target := .collected D, args := #[] } :: a.defers } W)
    (hstop : ∀ (D m : Nat) (W : World), w.heap.size ≤ D → m < 1024 → S m = true → Ix m W → W.heap[D]? = some (.deferred (some [])) → Code.ret.wpIn Fence.wide n Tryd.prog Q { a with defers := { target := .collected D, args := #[] } :: a.defers } W) :
    (Code.rangeFunc g #[q] assign body).wpIn Fence.wide n Tryd.prog Q a w := by
  refine wpIn_rangeFunc fun fn _ => ?_
  obtain ⟨R, hR⟩ : ∃ R, R = recd fn a q assign body w.heap.size := ⟨_, rfl⟩
  obtain ⟨W1, hW1⟩ : ∃ W1, (w.alloc (.deferred (some []))).alloc (.loop (R .ready none)) = W1 := ⟨_, rfl⟩
  have k1 : Kept2 W1 w.heap.size (R .ready none) := by
    subst hW1
    refine ⟨(Below.heap_alloc _ _ _ (by simp)).trans (World.alloc_heap_new w _), ?_⟩
    have := World.alloc_heap_new (w.alloc (.deferred (some []))) (.loop (R .ready none))
    rwa [World.size_alloc] at this
  have i1 : I 0 W1 := by subst hW1; exact hI.alloc _ (hI.alloc _ h0)
  refine ⟨w.heap.size + 1, [{ target := .collected w.heap.size, args := #[] }], W1,
    { target := .fn (.func 27) #[], args := #[.pointer (some ⟨G, off, none⟩)] ++ #[.func (.yield (w.heap.size + 1)) #[] #[]] }, W1, 27,
    #[.pointer (some ⟨G, off, none⟩), .func (.yield (w.heap.size + 1)) #[] #[]], W1, ?_, ?_, fun _ _ => trivial, ?_, fun _ => hn, ?_⟩
  · rw [← hW1, hR]
    exact run_enterLoop_outer _ _ _ _ _
  · simp only [resolve, hg]
    simp [go_sem, Deferred.ofValue]
  · have e := enters_of Tryd.func27 (by kernel_rfl) rfl #[.pointer (some ⟨G, off, none⟩), .func (.yield (w.heap.size + 1)) #[] #[]] W1
    simp [invoke, go_sem, e]
  · -- a round, begun and ended
    have fin : ∀ (j : Option Code) (W : World), Kept2 W w.heap.size (R .busy none) →
        (Instr.endRound (w.heap.size + 1) j).run Tryd.prog W = .ok (.bool j.isNone) (W.putObj (w.heap.size + 1) (.loop (R (if j.isNone then .ready else .done) j))) := by
      intro j W h
      have := run_endRound (P := Tryd.prog) j h.l
      rw [hR] at this ⊢
      exact this
    refine (each_in (n - 1) hn2 (w.heap.size + 1) G off S (fun m W => I m W ∧ Kept2 W w.heap.size (R .ready none)) (fun m W => Ix m W ∧ Kept2 W w.heap.size (R .done (some .ret)))
      (fun m W h => hC m W h.1) (fun m W h1 h2 h3 => ⟨hs m W h1 h2 h3.1, h3.2⟩) ?_ W1 ⟨i1, k1⟩).mono ?_
    · rintro m W hm hS ⟨hi, hk⟩
      have hy := run_yield (P := Tryd.prog) (args := #[.int .i64 (m : Int)]) hk.l (by rw [hR]; rfl)
      rw [hR] at hy
      have hz : ((recd fn a q assign body w.heap.size .ready none).params.zip #[Value.int .i64 (m : Int)]).foldl (fun t (x : Tmp × Value) => t.setIfInBounds x.1 x.2) (recd fn a q assign body w.heap.size .ready none).tmps = a.tmps.setIfInBounds q (.int .i64 (m : Int)) := by simp [recd]
      have hy2 : (Instr.yield (w.heap.size + 1) #[.int .i64 (m : Int)]).run Tryd.prog W = .ok (.round (w.heap.size + 1) fn (a.tmps.setIfInBounds q (.int .i64 (m : Int))) assign body) W := by rw [← hz]; exact hy
      refine ⟨fn, _, assign, body, hy2, roundIn_of_wpIn trivial (hassign _ m W _ ?_)⟩
      refine ⟨_, run_beginRound hk.l (by rw [hR]; rfl), ?_⟩
      have hk2 : Kept2 (W.putObj (w.heap.size + 1) (.loop (R .busy none))) w.heap.size (R .busy none) := hk.set _
      have hb : ({ R .ready none with state := .busy } : Loop) = R .busy none := by rw [hR]; rfl
      rw [hb]
      refine wpIn_mono (hbody (w.heap.size + 1) m _ hm hS (hI.putObj _ hi (by omega) hk.l rfl)) ?_
      rintro e a3 W3 hp
      cases e with
      | normal =>
        obtain ⟨k3, i3⟩ := hp
        have h3 := hk2.keeps k3 (Nat.le_refl _)
        exact ⟨_, _, fin none W3 h3, .inl ⟨rfl, hI.putObj _ i3 (by omega) h3.l rfl, h3.set _⟩⟩
      | ret =>
        obtain ⟨k3, i3⟩ := hp
        have h3 := hk2.keeps k3 (Nat.le_refl _)
        exact ⟨_, _, fin (some .ret) W3 h3, .inr ⟨rfl, hIx.putObj _ i3 (by omega) h3.l rfl, h3.set _⟩⟩
      | exit id => exact hp.elim
      | goto t => exact hp.elim
      | panic c => exact hp.elim
      | outgrown => exact hp.elim
    · rintro e W2 ⟨⟨v, rfl⟩, (⟨hi, hk⟩ | ⟨m, hm, hS, hi, hk⟩)⟩
      · have := run_endLoop (P := Tryd.prog) hk.l (by rw [hR]; intro h; cases h)
        refine ⟨none, _, by rw [hR] at this; exact this, hdone _ _ (Nat.le_refl _) (hI.putObj _ hi (by omega) hk.l rfl) ?_⟩
        exact (World.putObj_heap_other (by omega)).trans hk.d
      · have := run_endLoop (P := Tryd.prog) hk.l (by rw [hR]; intro h; cases h)
        refine ⟨some .ret, _, by rw [hR] at this; exact this, hstop _ m _ (Nat.le_refl _) hm hS (hIx.putObj _ hi (by omega) hk.l rfl) ?_⟩
        exact (World.putObj_heap_other (by omega)).trans hk.d
end Go.Proofs.YtkmnmmenjpkkpaaDoor
