/- A space in memory, and the least place of a set. Conditions: those named. -/
import Derived.Test.YtkmnmmenjpkkpaaDoorRb
set_option linter.unusedVariables false
namespace Go.Proofs.YtkmnmmenjpkkpaaDoor
open Go.RowKit Go.Shelf

attribute [local go_sem] Oper.semAt_some

/-- A space's cells: how many blocks, the free ones, those given back. -/
def spc (N : Nat) (F B : Nat → Bool) : List Value := .int .i64 (N : Int) :: ((List.range 16).map (fun i => W64 (wv F i)) ++ (List.range 16).map (fun i => W64 (wv B i)))
section
variable (N : Nat) (F B : Nat → Bool)
theorem spc_len : (spc N F B).length = 33 := by simp [spc]
theorem spc_num : (spc N F B)[0]? = some (.int .i64 (N : Int)) := rfl
theorem spc_free {i : Nat} (h : i < 16) : (spc N F B)[1 + i]? = some (W64 (wv F i)) := by
  unfold spc
  rw [Nat.add_comm, List.getElem?_cons_succ, List.getElem?_append_left (by simpa using h)]
  simp [h]
theorem spc_back {i : Nat} (h : i < 16) : (spc N F B)[17 + i]? = some (W64 (wv B i)) := by
  unfold spc
  rw [show 17 + i = (16 + i) + 1 by omega, List.getElem?_cons_succ, List.getElem?_append_right (by simp)]
  simp [h]
theorem spc_one : ∀ u ∈ spc N F B, u.oneCell' = true := by
  intro u hu
  unfold spc at hu
  rcases List.mem_cons.1 hu with rfl | hu
  · rfl
  · rcases List.mem_append.1 hu with hu | hu <;> · obtain ⟨i, _, rfl⟩ := List.mem_map.1 hu; rfl
theorem wv_put (a i : Nat) (b : Bool) : wv (put F a b) i = if i = a / 64 then num 64 (put (fun j => F (64 * (a / 64) + j)) (a % 64) b) else wv F i := by
  split
  · rename_i h
    subst h
    rw [wv_eq]
    refine num_congr 64 fun j hj => ?_
    unfold put
    by_cases e : j = a % 64
    · rw [if_pos (by omega), if_pos e]
    · rw [if_neg (by omega), if_neg e]
  · rename_i h
    rw [wv_eq, wv_eq]
    refine num_congr 64 fun j hj => ?_
    unfold put
    rw [if_neg (by omega)]
theorem spc_ext {N : Nat} {F B F' B' : Nat → Bool} (h : ∀ i, i < 16 → wv F i = wv F' i) (k : ∀ i, i < 16 → wv B i = wv B' i) : spc N F B = spc N F' B' := by
  unfold spc
  congr 2
  · exact List.map_congr_left fun i hi => by rw [h i (by simpa using hi)]
  · exact List.map_congr_left fun i hi => by rw [k i (by simpa using hi)]
theorem wv_congr {F F' : Nat → Bool} {i : Nat} (hi : i < 16) (h : ∀ j, j < 1024 → F j = F' j) : wv F i = wv F' i := by
  rw [wv_eq, wv_eq]
  exact num_congr 64 fun j hj => h _ (by omega)
theorem set_map {f h : Nat → Value} {i : Nat} (hi : i < 16) (e : ∀ j, j < 16 → h j = if j = i then h i else f j) : ((List.range 16).map f).set i (h i) = (List.range 16).map h := by
  apply List.ext_getElem?
  intro j
  rw [List.getElem?_set]
  by_cases hj : j < 16
  · by_cases e1 : i = j
    · subst e1
      simp [hi]
    · rw [if_neg e1]
      have := e j hj
      rw [if_neg (Ne.symm e1)] at this
      simp [hj, this]
  · rw [List.getElem?_eq_none (by simp; omega), List.getElem?_eq_none (by simp; omega)]
    split <;> simp
    omega
theorem spc_setF {a : Nat} (b : Bool) (h : a < 1024) : (spc N F B).set (1 + a / 64) (W64 (num 64 (put (fun j => F (64 * (a / 64) + j)) (a % 64) b))) = spc N (put F a b) B := by
  have hw := wv_put F a (a / 64) b
  rw [if_pos rfl] at hw
  rw [← hw]
  unfold spc
  rw [Nat.add_comm, List.set_cons_succ, List.set_append_left _ _ (by simp; omega)]
  rw [set_map (f := fun i => W64 (wv F i)) (h := fun i => W64 (wv (put F a b) i)) (by omega) (fun j hj => by
    by_cases e : j = a / 64
    · rw [if_pos e, e]
    · rw [if_neg e, wv_put, if_neg e])]
theorem spc_setB {a : Nat} (b : Bool) (h : a < 1024) : (spc N F B).set (17 + a / 64) (W64 (num 64 (put (fun j => B (64 * (a / 64) + j)) (a % 64) b))) = spc N F (put B a b) := by
  have hw := wv_put B a (a / 64) b
  rw [if_pos rfl] at hw
  rw [← hw]
  unfold spc
  rw [show 17 + a / 64 = (16 + a / 64) + 1 by omega, List.set_cons_succ, List.set_append_right _ _ (by simp)]
  simp only [List.length_map, List.length_range, Nat.add_sub_cancel_left]
  rw [set_map (f := fun i => W64 (wv B i)) (h := fun i => W64 (wv (put B a b) i)) (by omega) (fun j hj => by
    by_cases e : j = a / 64
    · rw [if_pos e, e]
    · rw [if_neg e, wv_put, if_neg e])]
end
attribute [irreducible] spc

/-- Block g is a space. -/
abbrev SpAt (w : World) (g N : Nat) (F B : Nat → Bool) : Prop := Row w g 51 (spc N F B)
theorem spf_at {w : World} {g N : Nat} {F B : Nat → Bool} (h : SpAt w g N F B) : SetAt w g 1 F := fun i hi => by rw [h.cell, spc_free N F B hi]
theorem spb_at {w : World} {g N : Nat} {F B : Nat → Bool} (h : SpAt w g N F B) : SetAt w g 17 B := fun i hi => by rw [h.cell, spc_back N F B hi]

theorem none_next {S : Nat → Bool} {m : Nat} (h1 : S m = false) (h2 : ∀ j, j < m → S j = false) : ∀ j, j < m + 1 → S j = false := by
  intro j hj
  by_cases e : j = m
  · rw [e]; exact h1
  · exact h2 j (by omega)

set_option maxRecDepth 100000 in
set_option maxHeartbeats 4000000 in
/-- The least place of a set. -/
theorem least_any (g off : Nat) (S : Nat → Bool) (w : World) (hS : SetAt w g off S) (hT : Tab w) (hg : g < w.heap.size) :
    Calls Tryd.prog 24 #[.pointer (some ⟨g, off, none⟩)] w fun e w' => Below w.heap.size w w' ∧
      ((∃ m, m < 1024 ∧ S m = true ∧ (∀ j, j < m → S j = false) ∧ e = .returned (.tuple #[.int .i64 (m : Int), .bool true])) ∨
        ((∀ j, j < 1024 → S j = false) ∧ e = .returned (.tuple #[.int .i64 0, .bool false]))) := by
  have HS := Lib.hid hS
  have HT := Lib.hid hT
  clear hS hT
  refine (callsIn_wide (n := 3)).1 ?_
  refine callsIn_of_wp_marks Tryd.func24 rfl trivial ?_ rfl
  simp only [Tryd.ntmps24, List.size_toArray, List.length_cons, List.length_nil, Nat.reduceAdd, Nat.reduceSub, Array.replicate_succ, Array.replicate_zero, List.push_toArray, List.append_toArray, List.nil_append, List.cons_append]
  gi_wp2
  have bI := (Boxed.new w 3 (.int .i64 0)).alloc (.cells #[.bool false] 4)
  have bB := Boxed.new (w.alloc (.cells #[.int .i64 0] 3)) 4 (.bool false)
  simp only [World.size_alloc] at bB
  have hB0 : Below w.heap.size w ((w.alloc (.cells #[.int .i64 0] 3)).alloc (.cells #[.bool false] 4)) := ((Below.refl _ w).alloc (Nat.le_refl _) _).alloc (by simp) _
  have hsz : ((w.alloc (.cells #[.int .i64 0] 3)).alloc (.cells #[.bool false] 4)).heap.size = w.heap.size + 2 := by simp
  obtain ⟨W0, hW0⟩ : ∃ W0, (w.alloc (.cells #[.int .i64 0] 3)).alloc (.cells #[.bool false] 4) = W0 := ⟨_, rfl⟩
  rw [hW0] at bI bB hB0 hsz ⊢
  clear hW0
  have HSZ := Lib.hid hsz
  have hcell : ∀ i, i < 16 → w.cell? ⟨g, off + i, none⟩ = some (W64 (wv S i)) := HS.out
  refine range_places (by omega) g off S rfl
    (fun m W => (∀ j, j < m → S j = false) ∧ Below W0.heap.size W0 W)
    (fun m W => (∀ j, j < m → S j = false) ∧ (Boxed W w.heap.size 3 (.int .i64 (m : Int)) ∧ Boxed W (w.heap.size + 1) 4 (.bool true)) ∧ Below w.heap.size w W)
    (OwnFrom.and (ownFrom_pure _ _) (ownFrom_below (Nat.le_refl _) (Nat.le_refl _)))
    (OwnFrom.and (ownFrom_pure _ _) (OwnFrom.and (OwnFrom.and (Own.from (boxed_own w.heap.size 3 (fun (m : Nat) => Value.int .i64 (m : Int))) _) (Own.from (boxed_own (w.heap.size + 1) 4 (fun (_ : Nat) => Value.bool true)) _)) (ownFrom_below (Nat.le_refl _) (by omega))))
    (by omega)
    (fun m W ⟨_, hb⟩ => ⟨(HT.out.below hB0 HT.out.lt).below hb (Nat.lt_of_lt_of_le HT.out.lt (by rw [hsz]; exact Nat.le_add_right _ _)), fun i hi => ((hB0.trans (hb.mono (by omega))).cell (p := ⟨g, off + i, none⟩) hg).trans (hcell i hi)⟩)
    (fun m W _ h1 h2 => ⟨none_next h1 h2.1, h2.2⟩)
    ⟨fun j hj => absurd hj (Nat.not_lt_zero _), Below.refl _ _⟩
    (fun m => { tmps := #[.pointer (some ⟨g, off, none⟩), undef, .pointer (some ⟨w.heap.size, 0, none⟩), .pointer (some ⟨w.heap.size + 1, 0, none⟩), .int .i64 (m : Int), .pointer (some ⟨g, off, none⟩), .func (.func 27) #[.pointer (some ⟨g, off, none⟩)] #[], .int .i64 (m : Int), undef], defers := [] })
    ?assign ?body ?done ?stop
  case assign =>
    intro l m W K hK
    gi_wp2
    exact hK
  case body =>
    rintro l m W hm hSm ⟨hp, hB1⟩
    have bI1 : Boxed W w.heap.size 3 (.int .i64 0) := (hB1.block _ bI.lt).trans bI
    have bB1 : Boxed W (w.heap.size + 1) 4 (.bool false) := (hB1.block _ bB.lt).trans bB
    have cI := bI1.cell
    have fI := bI1.frozen
    have bB2 := bB1.other (B' := w.heap.size) (by omega) (.int .i64 (m : Int))
    have cB := bB2.cell
    have fB := bB2.frozen
    have HP := Lib.hid hp
    have HB1 := Lib.hid hB1
    clear hp hB1
    gi_wp2
    exact ⟨((KeepsOthers.setCell _ _ _).trans (KeepsOthers.setCell _ _ _)).from _, HP.out, ⟨(bI1.set _).other (by omega) _, bB2.set _⟩,
      ((hB0.trans (HB1.out.mono (by have := HSZ.out; omega))).setCell (p := ⟨w.heap.size, 0, none⟩) (Nat.le_refl _) _).setCell (p := ⟨w.heap.size + 1, 0, none⟩) (Nat.le_succ _) _⟩
  case done =>
    rintro D W hD ⟨hp, hB1⟩ hK
    have bI1 : Boxed W w.heap.size 3 (.int .i64 0) := (hB1.block _ bI.lt).trans bI
    have bB1 : Boxed W (w.heap.size + 1) 4 (.bool false) := (hB1.block _ bB.lt).trans bB
    have cI := bI1.cell
    have fI := bI1.frozen
    have bB2 := bB1.other (B' := w.heap.size) (by omega) (.int .i64 0)
    have cB := bB2.cell
    have fB := bB2.frozen
    have HP := Lib.hid hp
    have HB1 := Lib.hid hB1
    have HKD := Lib.hid hK
    have HD := Lib.hid hD
    clear hp hB1 hK hD
    gi_wp2
    have hK' := ((KeepsOthers.setCell W ⟨w.heap.size, 0, none⟩ (.int .i64 0)).trans (KeepsOthers.setCell _ ⟨w.heap.size + 1, 0, none⟩ (.bool false))).same D _ HKD.out rfl
    refine ⟨by simp, .inl ⟨_, _, rfl, run_takeDeferred hK', ?_⟩⟩
    have hc5 := cell_kept ((bI1.set (.int .i64 0)).other (B' := w.heap.size + 1) (by omega) (.bool false)).cell (grownBy_putObj' _ D (.deferred none)) (fun r e => by cases e; exact ⟨_, hK', rfl⟩)
    have hc6 := cell_kept (bB2.set (.bool false)).cell (grownBy_putObj' _ D (.deferred none)) (fun r e => by cases e; exact ⟨_, hK', rfl⟩)
    refine ⟨.tuple #[.int .i64 0, .bool false], ?_, (((hB0.trans (HB1.out.mono (by have := HSZ.out; omega))).setCell (p := ⟨w.heap.size, 0, none⟩) (Nat.le_refl _) _).setCell (p := ⟨w.heap.size + 1, 0, none⟩) (Nat.le_succ _) _).trans (belowK_b (w := w) (Nat.le_refl _) _ D _ _ (by have := HD.out; have := HSZ.out; omega) hK' rfl rfl), .inr ⟨HP.out, rfl⟩⟩
    simp [results, Tryd.f24, go_sem, hc5, hc6]
  case stop =>
    rintro D m W hD hm hSm ⟨hp, ⟨b1, b2⟩, hB1⟩ hK
    have HD := Lib.hid hD
    have HB1 := Lib.hid hB1
    have HKD := Lib.hid hK
    have HP := Lib.hid hp
    clear hD hB1 hK hp
    gi_wp2
    refine ⟨by simp, .inl ⟨_, _, rfl, run_takeDeferred HKD.out, ?_⟩⟩
    have hc5 := cell_kept b1.cell (grownBy_putObj' _ D (.deferred none)) (fun r e => by cases e; exact ⟨_, HKD.out, rfl⟩)
    have hc6 := cell_kept b2.cell (grownBy_putObj' _ D (.deferred none)) (fun r e => by cases e; exact ⟨_, HKD.out, rfl⟩)
    refine ⟨.tuple #[.int .i64 (m : Int), .bool true], ?_, HB1.out.trans (belowK_b (w := w) (Nat.le_refl _) W D _ _ (by have := HD.out; have := HSZ.out; omega) HKD.out rfl rfl), .inl ⟨m, hm, hSm, HP.out, rfl⟩⟩
    simp [results, Tryd.f24, go_sem, hc5, hc6]
end Go.Proofs.YtkmnmmenjpkkpaaDoor
