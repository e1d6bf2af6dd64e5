/- ViewAgain: what a run says when more slots are known; a source made anew. Conditions: those named. -/
import Derived.Test.YtpobppoaidngeaaKq
import Derived.Test.YtpobppoaidngeaaKs
set_option linter.unusedVariables false
set_option maxRecDepth 20000
namespace Go.Proofs.Ytpobppoaidngeaa
open Go.RowKit

theorem runP_mono {S S' : Int → Option L8} (hS : ∀ a l, S a = some l → S' a = some l) : ∀ {ds : List DV} {C : Int → Option L8} {seen : List L8} {x : List L8 × (Int → Option L8)}, runP S ds C seen = .inl x → runP S' ds C seen = .inl x
  | [], C, seen, x, h => h
  | d :: ds, C, seen, x, h => by
    rw [runP] at h ⊢
    by_cases hp : d.put = true
    · rw [if_pos hp] at h ⊢
      exact runP_mono hS h
    · rw [if_neg hp] at h ⊢
      cases hC : C d.slot with
      | some l =>
        rw [hC] at h
        exact runP_mono hS h
      | none =>
        rw [hC] at h
        cases hs : S d.slot with
        | some l =>
          rw [hs] at h
          rw [hS _ _ hs]
          exact runP_mono hS h
        | none =>
          rw [hs] at h
          cases h
theorem runP_inr {S : Int → Option L8} {a : Int} : ∀ {ds : List DV} {C : Int → Option L8} {seen : List L8}, runP S ds C seen = .inr a → S a = none ∧ ∃ d ∈ ds, d.slot = a
  | [], C, seen, h => by cases h
  | d :: ds, C, seen, h => by
    rw [runP] at h
    by_cases hp : d.put = true
    · rw [if_pos hp] at h
      obtain ⟨h1, d', h2, h3⟩ := runP_inr h
      exact ⟨h1, d', List.mem_cons_of_mem _ h2, h3⟩
    · rw [if_neg hp] at h
      cases hC : C d.slot with
      | some l =>
        rw [hC] at h
        obtain ⟨h1, d', h2, h3⟩ := runP_inr h
        exact ⟨h1, d', List.mem_cons_of_mem _ h2, h3⟩
      | none =>
        rw [hC] at h
        cases hs : S d.slot with
        | some l =>
          rw [hs] at h
          obtain ⟨h1, d', h2, h3⟩ := runP_inr h
          exact ⟨h1, d', List.mem_cons_of_mem _ h2, h3⟩
        | none =>
          rw [hs] at h
          injection h with h
          subst h
          exact ⟨hs, d, List.mem_cons_self, rfl⟩
/-- Slots within bounds. -/
def InR (n : Nat) (ds : List DV) : Prop := ∀ d ∈ ds, 0 ≤ d.slot ∧ d.slot < (n : Int)
theorem byL_none {C : Int → Option BV} {a : Int} (h : byL C a = none) : C a = none := by
  unfold byL at h
  cases hc : C a with
  | none => rfl
  | some x => rw [hc] at h; cases h
theorem byL_mono {C C' : Int → Option BV} (h : ∀ a x, C a = some x → C' a = some x) (a : Int) (l : L8) (hl : byL C a = some l) : byL C' a = some l := by
  unfold byL at hl ⊢
  cases hc : C a with
  | none => rw [hc] at hl; cases hl
  | some x => rw [hc] at hl; rw [h a x hc]; exact hl
theorem src_all_mono {Bs : List BV} {Ks : List Bool} {n : Nat} (hK : Ks.length = n) (a : Int) (x : BV) (h : srcF Bs Ks a = some x) : srcF Bs (List.replicate n true) a = some x := by
  unfold srcF at h ⊢
  split at h
  · rename_i hh
    have h1 := (List.getElem?_eq_some_iff.1 hh.2).1
    rw [if_pos ⟨hh.1, by rw [List.getElem?_replicate, if_pos (by omega)]⟩]
    exact h
  · cases h
theorem src_all {Bs : List BV} {n : Nat} (hB : Bs.length = n) {a : Int} (h0 : 0 ≤ a) (h1 : a < (n : Int)) : srcF Bs (List.replicate n true) a ≠ none := by
  unfold srcF
  rw [if_pos ⟨h0, by rw [List.getElem?_replicate, if_pos (by omega)]⟩, List.getElem?_eq_getElem (by omega)]
  exact fun h => by cases h
theorem src_off {Bs : List BV} {Ks : List Bool} {n : Nat} (hB : Bs.length = n) (hK : Ks.length = n) {a : Nat} (h1 : a < n) (h : srcF Bs Ks (a : Int) = none) : Ks[a]? = some false := by
  cases hk : Ks[a]? with
  | none => rw [List.getElem?_eq_none_iff] at hk; omega
  | some b =>
    cases b with
    | false => rfl
    | true =>
      rw [src_yes hk, List.getElem?_eq_none_iff] at h
      omega
/-- With every slot known it comes to its end. -/
theorem run_all {Bs : List BV} {n : Nat} {ds : List DV} (hB : Bs.length = n) (hR : InR n ds) (a : Int) : runP (byL (srcF Bs (List.replicate n true))) ds (byL fun _ => none) [] ≠ .inr a := by
  intro h
  obtain ⟨h1, d, hd, rfl⟩ := runP_inr h
  exact src_all hB (hR d hd).1 (hR d hd).2 (byL_none h1)
theorem cnt_set : ∀ {Ks : List Bool} {j : Nat}, Ks[j]? = some false → (Ks.set j true).count false + 1 = Ks.count false
  | [], j, h => by simp at h
  | b :: t, 0, h => by
    simp at h
    subst h
    simp
  | b :: t, j + 1, h => by
    have h' : t[j]? = some false := by simpa using h
    have := cnt_set h'
    rw [List.set_cons_succ, List.count_cons, List.count_cons]
    omega
theorem bcs_flat : ∀ (Ks : List Bool), Ks.flatMap bcs = Ks.map Value.bool
  | [] => rfl
  | b :: t => by rw [List.flatMap_cons, bcs_flat t]; rfl
theorem bcs_set (Ks : List Bool) (j : Nat) (b : Bool) : (Ks.flatMap bcs).set j (.bool b) = (Ks.set j b).flatMap bcs := by
  rw [bcs_flat, bcs_flat, List.map_set]
theorem lies_src {w : World} {A : Option Addr} {Ks : List Bool} (h : Lies bcs 1 w A Ks) : Ks.length = 0 ∧ A = none ∨ ∃ ad, A = some ad ∧ ∀ j u, (Ks.flatMap bcs)[j]? = some u → w.cell? (ad.add j) = some u := by
  rcases h with rfl | ⟨g, o, rfl, hc⟩
  · cases A with
    | none => exact .inl ⟨rfl, rfl⟩
    | some ad => exact .inr ⟨ad, rfl, fun j u hu => by simp at hu⟩
  · refine .inr ⟨_, rfl, fun j u hu => ?_⟩
    rw [bcs_flat, List.getElem?_map] at hu
    obtain ⟨b, hb, rfl⟩ := Option.map_eq_some_iff.1 hu
    have := hc j b hb 0 _ rfl
    rw [Addr.add_lit]
    simpa using this
/-- A row's block as cells. -/
theorem own_row {w : World} {b g n c k : Nat} {e : TypeId} {xs : List Value} (h : w.ownsRow b e k (.slice (some ⟨g, 0, none⟩) n c) n xs) : ∃ cur : List Value, Row w g e cur ∧ cur.length = c * k ∧ cur.take (n * k) = xs ∧ n ≤ c ∧ c ≤ maxLen ∧ b ≤ g := by
  rcases h.2 with ⟨h', _⟩ | ⟨g', cap', cur, h', hb, hg, hnc, hcm, hcs, htake⟩
  · simp at h'
  · simp only [Value.slice.injEq, Option.some.injEq, Addr.mk.injEq, and_true, true_and] at h'
    obtain ⟨rfl, rfl⟩ := h'
    exact ⟨cur.toList, by unfold Row; simpa using hg, by simpa using hcs, htake, hnc, hcm, hb⟩
/-- A source of the call's own: the blocks of another, known slots in a row of its own. -/
def OwnS (B : Nat) (w : World) (g : Nat) (AB : Option Addr) (n cB : Nat) (Ks : List Bool) : Prop :=
  ∃ Ac cc, Row w g 25 [.slice AB n cB, .slice Ac n cc] ∧ w.ownsRow B 4 1 (.slice Ac n cc) n (Ks.flatMap bcs) ∧ B ≤ g
section
variable {B g n cB : Nat} {w w' : World} {AB : Option Addr} {Ks : List Bool}
theorem OwnS.lt (h : OwnS B w g AB n cB Ks) : g < w.heap.size := by obtain ⟨_, _, h, _⟩ := h; exact h.lt
theorem OwnS.len (h : OwnS B w g AB n cB Ks) : Ks.length = n := by
  obtain ⟨_, _, _, h, _⟩ := h
  have := h.1
  rw [flat_len bcs_len] at this
  omega
theorem OwnS.below (h : OwnS B w g AB n cB Ks) (hb : Below w.heap.size w w') : OwnS B w' g AB n cB Ks := by
  obtain ⟨Ac, cc, h1, h2, h3⟩ := h
  exact ⟨Ac, cc, h1.kept hb, own_kept h2 hb, h3⟩
/-- It stays where blocks that are none of it are written. -/
theorem OwnS.chg {F : List Nat} (h : OwnS B w g AB n cB Ks) (hc : Chg F w w') (h1 : g ∉ F) (h2 : ∀ j ∈ F, ∀ cs fr, w.heap[j]? ≠ some (.cells cs 4 fr)) : OwnS B w' g AB n cB Ks := by
  obtain ⟨Ac, cc, r, o, l⟩ := h
  refine ⟨Ac, cc, hc.row r h1, Chg.own o hc (fun k hk hf => ?_), l⟩
  rcases o.2 with ⟨e, _⟩ | ⟨g', cap', cur', e, _, hg', _⟩
  · rw [e] at hk; cases hk
  · rw [e] at hk
    have hk' : some g' = some k := hk
    injection hk' with hk'
    subst hk'
    exact h2 _ hf _ _ hg'
/-- Read at a slot. -/
theorem OwnS.at_ (h : OwnS B w g AB n cB Ks) {j : Nat} (hj : j < n) : ∃ ga cc, Row w g 25 [.slice AB n cB, .slice (some ⟨ga, 0, none⟩) n cc] ∧ w.cell? ⟨ga, j, none⟩ = some (.bool (Ks.getD j false)) ∧ w.frozen? ⟨ga, j, none⟩ = false ∧ B ≤ ga ∧ OwnS B (w.setCell ⟨ga, j, none⟩ (.bool true)) g AB n cB (Ks.set j true) ∧ ga < w.heap.size ∧ (∃ cur, Row w ga 4 cur) := by
  have hl := h.len
  obtain ⟨Ac, cc, r, o, l⟩ := h
  have hx : Ks[j]? = some (Ks.getD j false) := by rw [List.getD_eq_getElem?_getD, List.getElem?_eq_getElem (by omega)]; rfl
  obtain ⟨ga, c, e, h1, h2, h3⟩ := own_rec bcs_len o hx (by decide)
  injection e with e1 e2 e3
  subst e1 e3
  have h4 := h3 0 _ rfl
  obtain ⟨cur, hr, _⟩ := own_row o
  have hne : g ≠ ga := r.ne_ hr (by decide)
  refine ⟨ga, cc, r, by simpa using h4, hr.free j, h2, ⟨_, cc, r.far (p := ⟨ga, j, none⟩) hne _, ?_, l⟩, h1, cur, hr⟩
  have := (o.stored j (.bool true)).1
  rw [bcs_set] at this
  exact this
theorem OwnS.row (h : OwnS B w g AB n cB Ks) : ∃ Ac cc, Row w g 25 [.slice AB n cB, .slice Ac n cc] := by obtain ⟨_, _, h, _⟩ := h; exact ⟨_, _, h⟩
/-- A source, as Get reads it. -/
theorem OwnS.src {W0 : World} {gs : Nat} {Bs : List BV} {Ks0 : List Bool} (h : OwnS B w g AB n cB Ks) (hs : Src B W0 gs Bs Ks0) (hl : Lies sc 1 W0 AB Bs) (hB : Bs.length = n) (hb : Below B W0 w) (hW : W0.heap.size = B) : Src w.heap.size w g Bs Ks := by
  have hk := h.len
  obtain ⟨Ac, cc, r, o, l⟩ := h
  have hlt := r.lt
  refine ⟨hlt, ⟨AB, cB, by rw [hB]; exact (r.cell 0).trans rfl, LiesB.all (fun x => by rw [sc_len]; decide) (hl.below (by rw [hW]; exact hb))⟩, ⟨Ac, cc, by rw [hk]; exact (r.cell 1).trans rfl, LiesB.all (fun x => by rw [bcs_len]; decide) (Lies.own (by decide) bcs_len o)⟩, fun x hx => ((hs.hol x hx).keep hb).mono (by omega), hs.len, by rw [hB, hk], hs.lim⟩
end
theorem zero_source (w : World) : (zeroValue 25).run Try.prog w = .ok (.agg [Value.slice none 0 0, .slice none 0 0].toArray) w := by kernel_rfl
theorem built_source (A B : Option Addr) (n m c d : Nat) : Try.prog.built 25 [(0, .slice A n c), (1, .slice B m d)] = some #[.slice A n c, .slice B m d] := by kernel_rfl
theorem info_source : (Try.prog.info? 25).map (·.size) = some 2 := by kernel_rfl
/-- An empty slice, at a step of a region that draws. -/
theorem st_bs0 {w : World} {ops : Array Oper} {o : Oper} {a : Act} {K : Act → World → Prop} {Q : Exit → Act → World → Prop} {E : Prop} (hw : Region.wanted o (yielded ops a.tmps) = true) (ho : o.op = .buildSlice 23 0 #[])
    (h : K (a.put o.dst (.slice (some ⟨w.heap.size, 0, none⟩) 0 0)) (w.alloc (.cells #[] 4))) : if Region.wanted o (yielded ops a.tmps) = true then Oper.wp Try.prog o a w K Q else E := by
  rw [if_pos hw]
  unfold Oper.wp execOp
  simp only [ho]
  simp [go_sem]
  exact h
/-- Where the region ends: the new source. -/
theorem own_end {B g n cB : Nat} {w w' : World} {AB A2 : Option Addr} {c2 : Nat} {Ks : List Bool} (h : w.ownsRow B 4 1 (.slice A2 n c2) n (Ks.flatMap bcs)) {old : List Value} (hold : Row w g 25 old) (hr : Row w' g 25 [.slice AB n cB, .slice A2 n c2]) (hg : w.grownBy w' (some g)) (hB : B ≤ g) : OwnS B w' g AB n cB Ks :=
  ⟨A2, c2, hr, World.ownsRow.kept h hg (.inr (row_parted hold h (by decide))), hB⟩
/-- A row of the call's own in a block below b. -/
theorem own_low {b B k n : Nat} {e : TypeId} {w w' : World} {v : Value} {xs : List Value} (h : w.ownsRow B e k v n xs) (hb : Below b w w') (hl : ∀ q, v.ownBlock = some q → q < b) : w'.ownsRow B e k v n xs := by
  refine ⟨h.1, ?_⟩
  rcases h.2 with hn | ⟨g, cap, cur, rfl, hB, hgg, rest⟩
  · exact .inl hn
  · exact .inr ⟨g, cap, cur, rfl, hB, (hb.block g (hl g rfl)).trans hgg, rest⟩
/-- The same, with all its blocks below b. -/
def OwnT (B b : Nat) (w : World) (g : Nat) (AB : Option Addr) (n cB : Nat) (Ks : List Bool) : Prop :=
  OwnS B w g AB n cB Ks ∧ g < b ∧ ∀ A c, w.cell? ⟨g, 1, none⟩ = some (.slice A n c) → ∀ k, (Value.slice A n c).ownBlock = some k → k < b
section
variable {B b g n cB : Nat} {w w' : World} {AB : Option Addr} {Ks : List Bool}
theorem OwnS.t (h : OwnS B w g AB n cB Ks) : OwnT B w.heap.size w g AB n cB Ks := by
  refine ⟨h, h.lt, fun A c e k hk => ?_⟩
  cases A with
  | none => cases hk
  | some ad => injection hk with hk; subst hk; obtain ⟨Ac, cc, r, o, l⟩ := h; have e2 := (r.cell 1).symm.trans e; simp at e2; obtain ⟨rfl, rfl⟩ := e2; exact (o.lt _ rfl).2
theorem OwnT.keep (h : OwnT B b w g AB n cB Ks) (hb : Below b w w') : OwnT B b w' g AB n cB Ks := by
  obtain ⟨⟨Ac, cc, r, o, l⟩, l1, l2⟩ := h
  have l3 := l2 Ac cc ((r.cell 1).trans rfl)
  exact ⟨⟨Ac, cc, r.below hb l1, own_low o hb l3, l⟩, l1, fun A c e => l2 A c (by rw [← e]; exact (hb.cell (p := ⟨g, 1, none⟩) l1).symm)⟩
/-- A source, as Get reads it. -/
theorem OwnT.src {W0 : World} {gs : Nat} {Bs : List BV} {Ks0 : List Bool} (h : OwnT B b w g AB n cB Ks) (hs : Src B W0 gs Bs Ks0) (hl : Lies sc 1 W0 AB Bs) (hB : Bs.length = n) (hb : Below B W0 w) (hW : W0.heap.size = B) (hBb : B ≤ b) : Src b w g Bs Ks := by
  have hk := h.1.len
  obtain ⟨⟨Ac, cc, r, o, l⟩, l1, l2⟩ := h
  have l3 := l2 Ac cc ((r.cell 1).trans rfl)
  have hlB : LiesB sc 1 W0.heap.size W0 AB Bs := LiesB.all (fun x => by rw [sc_len]; decide) hl
  rw [hW] at hlB
  refine ⟨l1, ⟨AB, cB, by rw [hB]; exact (r.cell 0).trans rfl, (hlB.keep hb).mono hBb⟩, ⟨Ac, cc, by rw [hk]; exact (r.cell 1).trans rfl, Lies.own (by decide) bcs_len o, ?_⟩, fun x hx => ((hs.hol x hx).keep hb).mono hBb, hs.len, by rw [hB, hk], hs.lim⟩
  refine .inr fun ad e => l3 ad.block ?_
  subst e
  rfl
end
/-- Not a Boolean. -/
def noB (v : Value) : Prop := ∀ b, v ≠ .bool b
/-- Every cell that held no Boolean holds what it held. -/
def KeepN (w w' : World) : Prop := w.heap.size ≤ w'.heap.size ∧ ∀ p v, w.cell? p = some v → noB v → w'.cell? p = some v
theorem KeepN.refl (w : World) : KeepN w w := ⟨Nat.le_refl _, fun _ _ h _ => h⟩
theorem KeepN.below {w0 w w' : World} (h : KeepN w0 w) (hb : Below w0.heap.size w w') : KeepN w0 w' :=
  ⟨Nat.le_trans h.1 hb.size, fun p v hp hv => (hb.cell (World.block_lt_of_cell? w0 _ hp)).trans (h.2 p v hp hv)⟩
theorem KeepN.put {w0 w : World} {ga j : Nat} {t : TypeId} {cur : List Value} {b : Bool} (h : KeepN w0 w) (hr : Row w ga t cur) (hj : w.cell? ⟨ga, j, none⟩ = some (.bool b)) (u : Value) : KeepN w0 (w.setCell ⟨ga, j, none⟩ u) := by
  refine ⟨Nat.le_trans h.1 (Nat.le_of_eq (by simp)), fun p v hp hv => ?_⟩
  have h1 := h.2 p v hp hv
  obtain ⟨q, o, sp⟩ := p
  by_cases hq : q = ga
  · subst hq
    have hs : sp = none := cell_spot h1
    subst hs
    have ho : j ≠ o := by
      rintro rfl
      rw [hj] at h1
      injection h1 with h1
      exact hv b h1.symm
    rw [(hr.put j u).cell, List.getElem?_set_ne ho, ← hr.cell]
    exact h1
  · exact (World.cell?_of_block (w := w) (Below.heap_setCell w ⟨ga, j, none⟩ u q hq)).trans h1
theorem KeepN.lies {α : Type} {f : α → List Value} {k : Nat} {w w' : World} {A : Option Addr} {xs : List α} (h : KeepN w w') (hf : ∀ x, ∀ u ∈ f x, noB u) (hl : Lies f k w A xs) : Lies f k w' A xs := by
  rcases hl with rfl | ⟨g, o, rfl, hc⟩
  · exact .inl rfl
  · exact .inr ⟨g, o, rfl, fun j x hx i u hu => h.2 _ _ (hc j x hx i u hu) (hf x u (List.mem_of_getElem? hu))⟩
theorem KeepN.hol {w w' : World} {A : Option Addr} {l : List UInt8} (h : KeepN w w') (hl : Hol w A l) : Hol w' A l := by
  rcases hl with rfl | ⟨g, o, rfl, hc⟩
  · exact .inl rfl
  · exact .inr ⟨g, o, rfl, fun j x hx => h.2 _ _ (hc j x hx) (fun b e => by cases e)⟩
theorem SlsAt.keepN {w w' : World} {A : Option Addr} {xs : List BV} (h : SlsAt w A xs) (k : KeepN w w') : SlsAt w' A xs :=
  ⟨k.lies (fun x u hu b e => by simp [sc, bvv] at hu; subst hu; cases e) h.lies, fun x hx => k.hol (h.hol x hx), h.len, h.lim⟩
theorem PutsAt.keepN {w w' : World} {A : Option Addr} {xs : List (Int × BV)} (h : PutsAt w A xs) (k : KeepN w w') : PutsAt w' A xs :=
  ⟨k.lies (fun x u hu b e => by simp [pcs, bvv] at hu; rcases hu with rfl | rfl <;> cases e) h.lies, fun x hx => k.hol (h.hol x hx), h.len, h.lim⟩
theorem OwnT.put {B b g n cB ga j : Nat} {w : World} {AB : Option Addr} {Ks Ks' : List Bool} {cur : List Value} (h : OwnT B b w g AB n cB Ks) (hr : Row w ga 4 cur) (h' : OwnS B (w.setCell ⟨ga, j, none⟩ (.bool true)) g AB n cB Ks') : OwnT B b (w.setCell ⟨ga, j, none⟩ (.bool true)) g AB n cB Ks' := by
  obtain ⟨⟨Ac, cc, r, o, l⟩, l1, l2⟩ := h
  refine ⟨h', l1, fun A c e => l2 A c ?_⟩
  rw [← e]
  exact (r.cell 1).trans ((r.far (p := ⟨ga, j, none⟩) (r.ne_ hr (by decide)) (.bool true)).cell 1).symm
/-- The first i slots known. -/
def pre (Ks : List Bool) (i : Nat) : List Bool := List.replicate i true ++ Ks.drop i
theorem pre_zero (Ks : List Bool) : pre Ks 0 = Ks := by simp [pre]
theorem pre_all {Ks : List Bool} {n : Nat} (h : Ks.length = n) : pre Ks n = List.replicate n true := by unfold pre; rw [List.drop_eq_nil_of_le (by omega), List.append_nil]
theorem pre_set {Ks : List Bool} {i : Nat} (h : i < Ks.length) : (pre Ks i).set i true = pre Ks (i + 1) := by
  unfold pre
  rw [List.set_append_right _ _ (by simp), List.length_replicate, Nat.sub_self, List.drop_eq_getElem_cons h, List.set_cons_zero, List.replicate_succ', List.append_assoc]
  rfl
theorem below_nxt' {B : Nat} {w u v : World} (hb : Below u.heap.size u v) (ha : Below B w u) (hB : B ≤ u.heap.size) : Below B w v := ha.trans (hb.mono hB)
theorem cnt_le (Ks : List Bool) : Ks.count false ≤ Ks.length := List.count_le_length
theorem cnt_pos {Ks : List Bool} {j : Nat} (h : Ks[j]? = some false) : 0 < Ks.count false := List.count_pos_iff.2 (List.mem_of_getElem? h)
end Go.Proofs.Ytpobppoaidngeaa
