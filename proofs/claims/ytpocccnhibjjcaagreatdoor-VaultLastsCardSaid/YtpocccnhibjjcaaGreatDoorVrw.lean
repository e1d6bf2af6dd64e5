/- A Hold beside which a walk writes a row of its own; a row of slices, told by its elements. Conditions: the Hold and the row lie there. -/
import Derived.Test.YtpocccnhibjjcaaGreatDoorVop
import Derived.Test.YtpocccnhibjjcaaGreatDoorMgPRead
import Derived.Test.YtpocccnhibjjcaaGreatDoorMgDisk
set_option linter.unusedVariables false
set_option maxRecDepth 20000
namespace Go.Proofs.YtpocccnhibjjcaaGreatDoor
open Go.RowKit

section
variable {b : Nat} {w w' w0 : World} {FD FA G G' : List Nat} {g q gv gH r : Nat} {L : Nat → Nat → List UInt8} {X X' : VX} {n E k m Q M : Nat} {c d : Nat → List UInt8} {gd ga : Nat} {old : Value} {P : VX → Prop} {f : Bool}
theorem HS.rowset {t : TypeId} {cs : List Value} (h : HS b w gH G n gd ga gv g q L old m FD FA X) (hv : VeilAt w (r :: G) gv L) (hr : Row w r t cs) (h1 : t ≠ 5) (h2 : t ≠ 99) (hn : r ∉ G) (hlt : gH < r) (hc : Chg [r] w w') : HS b w' gH G n gd ga gv g q L old m FD FA X := by
  have hin : ∀ j ∈ vfoot g X.c FD FA, j ∈ G := fun j hj => (h.gf j).2 (.inr (.inr hj))
  have one : ∀ j ∈ [r], j = r := fun j hj => List.mem_singleton.1 hj
  have hvl : VeilAt w' G gv L := hv.chg hc (fun j hj => .inl (by rw [one j hj]; exact List.mem_cons_self)) (fun j hj => .inl (List.mem_cons_of_mem _ hj))
  obtain ⟨xs, ho⟩ := h.own
  refine ⟨hc.row h.row (fun hx => by have := one _ hx; omega), h.vb.far hc (fun j hj hx => ?_) (fun j hj cs' fr e => ?_) (fun j hj cs' fr e => ?_) (fun j hj => ⟨cs.toArray, t, (0, 0), by rw [one j hj]; exact hr.heap⟩) (fun j hj => by have := one j hj; have := h.gb; omega) (hvl.chg (G := []) (Chg.refl _ _) (fun j hj => by cases hj) (fun j hj => .inl (hin j hj))), h.gd_, h.ga_, h.far, ⟨xs, hc.own ho (fun k hk hx => ?_)⟩, h.ofar, h.gf, h.gb, hvl⟩
  · exact hn (by rw [← one j hj]; exact hin j hx)
  · rw [one j hj, hr.heap] at e
    injection e with e
    injection e with _ e
    exact h1 e
  · rw [one j hj, hr.heap] at e
    injection e with e
    injection e with _ e
    exact h2 e
  · exact hn (by rw [← one k hx]; exact (h.gf k).2 (.inr (.inl hk)))
def SVr (w : World) (gH g : Nat) (G : List Nat) (n : Nat) (L : Nat → Nat → List UInt8) (Q M E : Nat) (c : Nat → List UInt8) (P : VX → Prop) (r : Nat) : Prop :=
  ∃ b gd ga gv q old m FD FA X, (HS b w gH G n gd ga gv g q L old m FD FA X ∧ VeilAt w (r :: G) gv L ∧ r ∉ G ∧ gH < r ∧ r < w.heap.size) ∧ RI L n c X ∧ X.c.e = E ∧ q ≤ Q ∧ m ≤ M ∧ P X
theorem SV.beside (h : SV w gH g G n L Q M E c P) (hb : Below w.heap.size w w') (h1 : w.heap.size ≤ r) (h2 : r < w'.heap.size) : SVr w' gH g G n L Q M E c P r := by
  have hlt := h.lt
  obtain ⟨b, gd, ga, gv, q, old, m, FD, FA, X, h3, h4⟩ := h
  refine ⟨b, gd, ga, gv, q, old, m, FD, FA, X, ⟨h3.below hb, h3.vl.chg (G := []) (.of hb) (fun j hj => by cases hj) (fun j hj => ?_), fun hx => ?_, Nat.lt_of_lt_of_le h3.row.lt h1, h2⟩, h4⟩
  · rcases List.mem_cons.1 hj with rfl | hj
    · exact .inr h1
    · exact .inl hj
  · have := hlt r hx
    omega
theorem SVr.sv (h : SVr w gH g G n L Q M E c P r) : SV w gH g G n L Q M E c P := by
  obtain ⟨b, gd, ga, gv, q, old, m, FD, FA, X, h1, h2⟩ := h
  exact ⟨b, gd, ga, gv, q, old, m, FD, FA, X, h1.1, h2⟩
theorem SVr.cell (h : SVr w gH g G n L Q M E c P r) : w.cell? ⟨gH, 4, none⟩ = some (.pointer (some ⟨g, 0, none⟩)) := SV.cell h.sv
theorem SVr.below (h : SVr w gH g G n L Q M E c P r) (hb : Below w.heap.size w w') : SVr w' gH g G n L Q M E c P r := by
  obtain ⟨b, gd, ga, gv, q, old, m, FD, FA, X, ⟨h1, h2, h3, h4, h5⟩, h6⟩ := h
  exact ⟨b, gd, ga, gv, q, old, m, FD, FA, X, ⟨h1.below hb, h2.chg (G := []) (.of hb) (fun j hj => by cases hj) (fun j hj => .inl hj), h3, h4, Nat.lt_of_lt_of_le h5 hb.size⟩, h6⟩
theorem SVr.mono {Q' M' : Nat} (h : SVr w gH g G n L Q M E c P r) (hQ : Q ≤ Q') (hM : M ≤ M') : SVr w gH g G n L Q' M' E c P r := by
  obtain ⟨b, gd, ga, gv, q, old, m, FD, FA, X, h1, h2, h3, h4, h5, h6⟩ := h
  exact ⟨b, gd, ga, gv, q, old, m, FD, FA, X, h1, h2, h3, Nat.le_trans h4 hQ, Nat.le_trans h5 hM, h6⟩
theorem SVr.imp {P' : VX → Prop} (h : SVr w gH g G n L Q M E c P r) (hp : ∀ X, RI L n c X → P X → P' X) : SVr w gH g G n L Q M E c P' r := by
  obtain ⟨b, gd, ga, gv, q, old, m, FD, FA, X, h1, h2, h3, h4, h5, h6⟩ := h
  exact ⟨b, gd, ga, gv, q, old, m, FD, FA, X, h1, h2, h3, h4, h5, hp X h2 h6⟩
theorem SVr.set {t : TypeId} {cs : List Value} (h : SVr w gH g G n L Q M E c P r) (hr : Row w r t cs) (h1 : t ≠ 5) (h2 : t ≠ 99) (i : Nat) (v : Value) : SVr (w.setCell ⟨r, i, none⟩ v) gH g G n L Q M E c P r := by
  obtain ⟨b, gd, ga, gv, q, old, m, FD, FA, X, ⟨h3, h4, h5, h6, h7⟩, h8⟩ := h
  have hc : Chg [r] w (w.setCell ⟨r, i, none⟩ v) := (Chg.refl _ _).setCell (p := ⟨r, i, none⟩) (.inl (List.mem_singleton.2 rfl)) v
  exact ⟨b, gd, ga, gv, q, old, m, FD, FA, X, ⟨h3.rowset h4 hr h1 h2 h5 h6 hc, h4.chg hc (fun j hj => .inl (by rw [List.mem_singleton.1 hj]; exact List.mem_cons_self)) (fun j hj => .inl hj), h5, h6, Nat.lt_of_lt_of_le h7 hc.size⟩, h8⟩
def PF (d c : Nat → List UInt8) (f : Bool) (X : VX) : Prop := PK d c X ∧ (if f = true then ∃ a, a < 256 ∧ (X.C a).isSome = true else ∀ a, X.C a = none)
theorem pow256 {n : Nat} (h : n ≤ 3) : 4 ^ n ≤ 64 := by
  rcases n with _ | _ | _ | _ | n <;> first | decide | omega
theorem sv_commit3 (h : SV w gH g G n L Q M E c (PF d c f)) (hE : E ≤ 900000) (hQ : Q + 9000 ≤ 900000) : Calls Tryz.prog 31 #[.pointer (some ⟨gH, 0, none⟩)] w fun e w' => e = .returned (.bool true) ∧ GTo w G w' fun G' => ∃ E', E' ≤ E + 1 ∧ SV w' gH g G' n L (Q + 9000) M E' d (PF d d false) := by
  refine (sv_commit h.unheld d (fun X hX => hX.1.1.1) hE hQ).mono fun e w' hv => ?_
  obtain ⟨rfl, G', h1, h2, h3⟩ := hv
  refine ⟨rfl, G', Lib.hid ?_, h2, h3⟩
  obtain ⟨E', h1⟩ := h1.out
  have hE' : E' ≤ E + 1 := by
    obtain ⟨_, _, _, _, _, _, _, _, _, _, _, _, _, _, _, X, _, _, _, h4⟩ := h1
    rcases h4 with h4 | ⟨h4, _⟩ <;> omega
  refine ⟨E', hE', h1.imp fun X' _ hp => ?_⟩
  obtain ⟨X, ⟨⟨⟨e1, e2⟩, _⟩, e3⟩, e4, e5, _⟩ := hp
  refine ⟨⟨?_, fun i => isK_commit (e3 i) (e2 i) e5 e1.symm⟩, fun a => by rw [e4]⟩
  funext i
  unfold ovC
  rw [e4]
theorem svr_put (h : SVr w gH g G n L Q M E c (PF d c f) r) (i : Nat) (hi : i < 4 ^ n) (x : BV) (bb : Nat) (hx : Own8 bb w x) (hxl : x.l.length = 256 ∨ x.l = []) (hQ : Q + 1 ≤ 900000) : Calls Tryz.prog 18 #[.pointer (some ⟨g, 0, none⟩), .int .i64 (i : Int), .slice x.A x.l.length x.c] w fun e w' => e = .returned (.int .i64 0) ∧ GTo w G w' fun G' => SVr w' gH g G' n L (Q + 1) M E c (PF (setL d i x.l) c true) r := by
  obtain ⟨b, gd, ga, gv, q, old, m, FD, FA, X, ⟨h1, hv, hrn, hlt, hrs⟩, h2, h3, h4, h5, h6⟩ := h
  refine (vput_in h1.vb h2 i hi x bb hx hxl (by omega)).mono fun e w' hv' => ?_
  obtain ⟨rfl, X', hT, hG, hK⟩ := hv'
  obtain ⟨g1, g2, g3, g4, g5⟩ := hG.out
  obtain ⟨G', FD', FA', k1, k2, k3⟩ := h1.to hT (by rw [g1]) (by rw [g1])
  refine ⟨rfl, G', Lib.hid ⟨b, gd, ga, gv, q + 1, old, m, FD', FA', X', ⟨k1, hv.chg k2 (fun j hj => .inl (List.mem_cons_of_mem _ hj)) (fun j hj => ?_), fun hx => ?_, hlt, Nat.lt_of_lt_of_le hrs k2.size⟩, g2, by rw [g1]; exact h3, by omega, h5, ?_⟩, Lib.hid k2, Lib.hid k3⟩
  · rcases List.mem_cons.1 hj with rfl | hj
    · exact .inl List.mem_cons_self
    · rcases k3 j hj with e | e
      · exact .inl (List.mem_cons_of_mem _ e)
      · exact .inr e
  · rcases k3 r hx with e | e
    · exact hrn e
    · omega
  · refine ⟨⟨?_, fun j => hK.out j (h6.1.2 j)⟩, i, ?_, g4⟩
    · rw [g3, h6.1.1]
    · have := pow256 h2.n3
      omega
end
def elV : Option (Nat × (Nat → UInt8)) → Value
  | none => .slice none 0 0
  | some (g, f) => .slice (some ⟨g, 0, none⟩) 256 256
def elL : Option (Nat × (Nat → UInt8)) → List UInt8
  | none => []
  | some (g, f) => lst 256 f
def elR (e : Nat → Option (Nat × (Nat → UInt8))) : List Value := (List.range 16).map fun i => elV (e i)
def elD (e : Nat → Option (Nat × (Nat → UInt8))) (i : Nat) : List UInt8 := elL (e i)
def elUp (e : Nat → Option (Nat × (Nat → UInt8))) (j : Nat) (v : Nat × (Nat → UInt8)) : Nat → Option (Nat × (Nat → UInt8)) := fun k => if k = j then some v else e k
theorem elR_len (e : Nat → Option (Nat × (Nat → UInt8))) : (elR e).length = 16 := by simp [elR]
theorem elR_get (e : Nat → Option (Nat × (Nat → UInt8))) {i : Nat} (h : i < 16) : (elR e)[i]? = some (elV (e i)) := by simp [elR, h]
theorem elR_set (e : Nat → Option (Nat × (Nat → UInt8))) (j g : Nat) (f : Nat → UInt8) (h : j < 16) : (elR e).set j (.slice (some ⟨g, 0, none⟩) 256 256) = elR (elUp e j (g, f)) := by
  apply List.ext_getElem?
  intro k
  rw [List.getElem?_set, elR_len]
  by_cases hk : j = k
  · subst hk
    rw [if_pos rfl, if_pos h, elR_get _ h]
    simp [elUp, elV]
  · rw [if_neg hk]
    by_cases h2 : k < 16
    · rw [elR_get _ h2, elR_get _ h2]
      unfold elUp
      rw [if_neg (fun e => hk e.symm)]
    · rw [List.getElem?_eq_none (by rw [elR_len]; omega), List.getElem?_eq_none (by rw [elR_len]; omega)]
theorem elD_up (e : Nat → Option (Nat × (Nat → UInt8))) (j g : Nat) (f : Nat → UInt8) : elD (elUp e j (g, f)) = setL (elD e) j (lst 256 f) := by
  funext k
  unfold elD elUp setL
  by_cases h : k = j
  · rw [if_pos h, if_pos h]; rfl
  · rw [if_neg h, if_neg h]
def ElAll (w : World) (G : List Nat) (e : Nat → Option (Nat × (Nat → UInt8))) : Prop := ∀ i g f, e i = some (g, f) → Own1 w G 5 g (brr 256 f)
section
variable {w w' : World} {G G' : List Nat} {e : Nat → Option (Nat × (Nat → UInt8))}
theorem ElAll.below (h : ElAll w G e) (hb : Below w.heap.size w w') : ElAll w' G e := fun i g f he => (h i g f he).below hb
theorem ElAll.step (h : ElAll w G e) (hC : Chg G w w') (hW : Wider w G G') : ElAll w' G' e := fun i g f he => (h i g f he).step hC hW
theorem ElAll.put (h : ElAll w G e) (j : Nat) {g : Nat} {f : Nat → UInt8} (ho : Own1 w G 5 g (brr 256 f)) : ElAll w G (elUp e j (g, f)) := fun i g' f' he => by
  unfold elUp at he
  split at he
  · injection he with he
    injection he with e1 e2
    subst e1 e2
    exact ho
  · exact h i g' f' he
theorem Own1.far {t t' : TypeId} {g r : Nat} {cs cs' : List Value} (h : Own1 w G t g cs) (hr : Row w r t' cs') (ht : t ≠ t') (i : Nat) (v : Value) : Own1 (w.setCell ⟨r, i, none⟩ v) G t g cs := ⟨h.1.far (p := ⟨r, i, none⟩) (h.1.ne_ hr ht) v, h.2⟩
theorem ElAll.far {t' : TypeId} {r : Nat} {cs' : List Value} (h : ElAll w G e) (hr : Row w r t' cs') (ht : 5 ≠ t') (i : Nat) (v : Value) : ElAll (w.setCell ⟨r, i, none⟩ v) G e := fun j g f he => (h j g f he).far hr ht i v
end
theorem elT_get (e : Nat → Option (Nat × (Nat → UInt8))) (tl : List Value) {i : Nat} (h : i < 16) : (elR e ++ tl)[i]? = some (elV (e i)) := by
  rw [List.getElem?_append_left (by rw [elR_len]; exact h)]
  exact elR_get e h
theorem elT_set (e : Nat → Option (Nat × (Nat → UInt8))) (tl : List Value) (j g : Nat) (f : Nat → UInt8) (h : j < 16) : (elR e ++ tl).set j (.slice (some ⟨g, 0, none⟩) 256 256) = elR (elUp e j (g, f)) ++ tl := by
  rw [List.set_append_left _ _ (by rw [elR_len]; exact h), elR_set e j g f h]
theorem elR_nil : elR (fun _ => none) = fill 16 0 nos := by rfl
theorem elR_one (e : Nat → Option (Nat × (Nat → UInt8))) : ∀ u ∈ elR e, u.oneCell' = true := by
  intro u hu
  obtain ⟨i, _, rfl⟩ := List.mem_map.1 hu
  cases e i with
  | none => rfl
  | some p => rfl
theorem own_tail {w : World} {b : Nat} {v : Value} {e : Nat → Option (Nat × (Nat → UInt8))} (h : w.ownsRow b 35 1 v 16 (elR e)) : ∃ g cap tl, v = .slice (some ⟨g, 0, none⟩) 16 cap ∧ b ≤ g ∧ 16 ≤ cap ∧ Row w g 35 (elR e ++ tl) := by
  rcases h.2 with ⟨_, h0⟩ | ⟨g, cap, cur, rfl, hb, hg, hn, hc, hs, ht⟩
  · cases h0
  · refine ⟨g, cap, cur.toList.drop 16, rfl, hb, hn, ?_⟩
    have e1 : elR e ++ cur.toList.drop 16 = cur.toList := by
      have h2 := List.take_append_drop 16 cur.toList
      rw [show 16 * 1 = 16 from rfl] at ht
      rw [ht] at h2
      exact h2
    show w.heap[g]? = some (.cells (elR e ++ cur.toList.drop 16).toArray 35 (0, 0))
    rw [e1, Array.toArray_toList]
    exact hg
theorem bs_none (w : World) : (Instr.buildSlice 56 0 #[]).run Tryz.prog w = .ok (.slice (some ⟨w.heap.size, 0, none⟩) 0 0) (w.alloc (.cells #[] 35)) := by kernel_rfl
theorem own_nothing (w : World) : (w.alloc (.cells #[] 35)).ownsRow w.heap.size 35 1 (.slice (some ⟨w.heap.size, 0, none⟩) 0 0) 0 [] :=
  ⟨rfl, .inr ⟨w.heap.size, 0, #[], rfl, Nat.le_refl _, (Row.made w 35 []).heap, Nat.le_refl _, by decide, rfl, rfl⟩⟩
theorem wpList_bs0 {ops : Array Oper} {rest : List Oper} {o : Oper} {a : Act} {w : World} {Q : Exit → Act → World → Prop} (hg : o.guard = none) (ho : o.op = .buildSlice 56 0 #[])
    (h : ∀ v w', w'.ownsRow w.heap.size 35 1 v 0 [] → Hid (v.ownBlock = some w.heap.size) → Below w.heap.size w w' → wpList Tryz.prog ops Q rest (a.put o.dst v) w') : wpList Tryz.prog ops Q (o :: rest) a w := by
  refine wpList_plain hg fun K hK => ?_
  unfold Oper.wp execOp
  simp only [ho, Sem.run_bind, List.map_toArray, List.map_nil, bs_none, Result.andThen_ok]
  exact hK _ _ (h _ _ (own_nothing w) (show some _ = some _ from rfl) ((Below.refl _ _).alloc (Nat.le_refl _) _))
theorem bs_nine (w : World) : (Instr.buildSlice 35 1 #[(0, .int .u8 9)]).run Tryz.prog w = .ok (.slice (some ⟨w.heap.size, 0, none⟩) 1 1) (w.alloc (.cells #[.int .u8 9] 5)) := by kernel_rfl
theorem wpList_bs9 {ops : Array Oper} {rest : List Oper} {o : Oper} {a : Act} {w : World} {Q : Exit → Act → World → Prop} (hg : o.guard = none) (ho : o.op = .buildSlice 35 1 #[(0, .const (.int .u8 9))])
    (h : ∀ g w', Hol w' (some ⟨g, 0, none⟩) [9] → Below w.heap.size w w' → wpList Tryz.prog ops Q rest (a.put o.dst (.slice (some ⟨g, 0, none⟩) 1 1)) w') : wpList Tryz.prog ops Q (o :: rest) a w := by
  refine wpList_plain hg fun K hK => ?_
  unfold Oper.wp execOp
  have e : a.eval (.const (.int .u8 9)) = .int .u8 9 := rfl
  simp only [ho, Sem.run_bind, List.map_toArray, List.map_cons, List.map_nil, e, bs_nine, Result.andThen_ok]
  exact hK _ _ (h _ _ (hol_made w 9) ((Below.refl _ _).alloc (Nat.le_refl _) _))
theorem whole_el (v : Option (Nat × (Nat → UInt8))) (w : World) (h : ∀ g f, v = some (g, f) → Row w g 5 (brr 256 f)) : Calls Tryz.prog 30 #[elV v] w (Fresh w 256 (wh (elL v))) := by
  cases v with
  | none => exact whole_any none 0 [] (by decide) w (hol_nil w)
  | some p =>
    obtain ⟨g, f⟩ := p
    have z := whole_any (some ⟨g, 0, none⟩) 256 (lst 256 f) (by rw [lst_len]; decide) w (h g f rfl).hol
    rwa [lst_len] at z
section
variable {w w' : World} {G : List Nat} {g gH : Nat} {L : Nat → Nat → List UInt8} {n E Q M : Nat} {c d : Nat → List UInt8}
def CS (w : World) (gH g : Nat) (G : List Nat) (n : Nat) (L : Nat → Nat → List UInt8) (Q M E : Nat) (c : Nat → List UInt8) : Prop :=
  SV w gH g G n L Q M E c (fun _ => True) ∨ (∃ d kk, PV w gH g G n L Q M E c d kk) ∨ MV w gH g G n L Q M E c
theorem CS.mono {Q' M' : Nat} (h : CS w gH g G n L Q M E c) (hQ : Q ≤ Q') (hM : M ≤ M') : CS w gH g G n L Q' M' E c := by
  rcases h with h | ⟨d, kk, h⟩ | h
  · exact .inl (h.mono hQ hM)
  · exact .inr (.inl ⟨d, kk, h.mono hQ hM⟩)
  · exact .inr (.inr (h.mono hQ hM))
theorem cs_crash (h : CS w gH g G n L Q M E c) (hM : M + Q ≤ 1000000) (KA : Option Addr) (kc : Nat) (kl : List Bool) (hK : HolV w KA (kl.map Value.bool)) (hKn : ∀ g0 o, KA = some ⟨g0, o, none⟩ → kl.map Value.bool ≠ [] → g0 ∉ G) : Calls Tryz.prog 32 #[.pointer (some ⟨gH, 0, none⟩), .slice KA kl.length kc] w fun e w' => e = .returned (.bool true) ∧ ∃ g' E', E' ≤ E + 1 ∧ GTo w G w' fun G' => MV w' gH g' G' n L Q (M + Q) E' c := by
  rcases h with h | ⟨d, kk, h⟩ | h
  · refine (sv_crash h hM KA kc kl hK hKn).mono fun e w' hv => ?_
    obtain ⟨rfl, g', h1⟩ := hv
    exact ⟨rfl, g', E + 1, Nat.le_refl _, h1⟩
  · refine (pv_crash h hM KA kc kl hK hKn).mono fun e w' hv => ?_
    obtain ⟨rfl, g', h1⟩ := hv
    exact ⟨rfl, g', E + 1, Nat.le_refl _, h1⟩
  · exact mv_crash h hM KA kc kl hK hKn
def PS3 (w : World) (gH g : Nat) (G : List Nat) (n : Nat) (L : Nat → Nat → List UInt8) (Q E : Nat) (c0 c1 : Nat → List UInt8) (dn : Bool) : Prop :=
  if dn = true then SV w gH g G n L Q 0 E c1 (fun _ => True) else (SV w gH g G n L Q 0 E c0 (fun _ => True) ∨ ∃ kk, kk ≤ 88 ∧ PV w gH g G n L Q 0 E c0 c1 kk)
theorem PS3.cell {c0 c1 : Nat → List UInt8} {dn : Bool} (h : PS3 w gH g G n L Q E c0 c1 dn) : w.cell? ⟨gH, 4, none⟩ = some (.pointer (some ⟨g, 0, none⟩)) := by
  cases dn
  · rcases h with h | ⟨kk, _, h⟩
    · exact SV.cell h
    · exact PV.cell h
  · exact SV.cell h
theorem PS3.cs {c0 c1 : Nat → List UInt8} {dn : Bool} (h : PS3 w gH g G n L Q E c0 c1 dn) : CS w gH g G n L Q 0 E (if dn = true then c1 else c0) := by
  cases dn
  · rcases h with h | ⟨kk, _, h⟩
    · exact .inl h
    · exact .inr (.inl ⟨_, kk, h⟩)
  · exact .inl h
theorem PS3.mono {c0 c1 : Nat → List UInt8} {dn : Bool} {Q' : Nat} (h : PS3 w gH g G n L Q E c0 c1 dn) (hQ : Q ≤ Q') : PS3 w gH g G n L Q' E c0 c1 dn := by
  cases dn
  · rcases h with h | ⟨kk, hk, h⟩
    · exact .inl (h.mono hQ (Nat.le_refl _))
    · exact .inr ⟨kk, hk, h.mono hQ (Nat.le_refl _)⟩
  · exact SV.mono h hQ (Nat.le_refl _)
theorem ps3_push {c0 c1 : Nat → List UInt8} {dn : Bool} (h : PS3 w gH g G n L Q E c0 c1 dn) (hE : E ≤ 900000) (hQ : Q + 90 ≤ 900000) : Calls Tryz.prog 14 #[.pointer (some ⟨g, 0, none⟩)] w fun e w' => ∃ (r : Bool) (z : Int) (dn' : Bool) (E' : Nat), e = .returned (.tuple #[.bool r, .int .i64 z]) ∧ Hid (E' ≤ E + 1 ∧ (dn = true → E' = E)) ∧ Hid ((z = 0 ∧ r = true ∧ dn = false ∧ dn' = true) ∨ ((z == 0) = true ∧ r = false ∧ dn' = dn ∧ E' = E) ∨ ((z == 0) = false ∧ dn' = dn ∧ E' = E)) ∧ GTo w G w' fun G' => PS3 w' gH g G' n L (Q + 90) E' c0 c1 dn' := by
  have stay : ∀ {c : Nat → List UInt8}, SV w gH g G n L Q 0 E c (fun _ => True) → PS3 w gH g G n L (Q + 90) E c0 c1 dn → Calls Tryz.prog 14 #[.pointer (some ⟨g, 0, none⟩)] w fun e w' => ∃ (r : Bool) (z : Int) (dn' : Bool) (E' : Nat), e = .returned (.tuple #[.bool r, .int .i64 z]) ∧ Hid (E' ≤ E + 1 ∧ (dn = true → E' = E)) ∧ Hid ((z = 0 ∧ r = true ∧ dn = false ∧ dn' = true) ∨ ((z == 0) = true ∧ r = false ∧ dn' = dn ∧ E' = E) ∨ ((z == 0) = false ∧ dn' = dn ∧ E' = E)) ∧ GTo w G w' fun G' => PS3 w' gH g G' n L (Q + 90) E' c0 c1 dn' := fun hs hp => by
    refine (sv_push_none hs).mono fun e w' hv => ?_
    obtain ⟨rfl, rfl⟩ := hv
    exact ⟨false, 205, dn, E, rfl, Lib.hid ⟨by omega, fun _ => rfl⟩, Lib.hid (.inr (.inr ⟨rfl, rfl, rfl⟩)), G, Lib.hid hp, Lib.hid (Chg.refl _ _), Lib.hid (Wider.refl _ _)⟩
  have h' := h.mono (Nat.le_add_right Q 90)
  cases dn
  · rcases h with h | ⟨kk, hk, h⟩
    · exact stay h h'
    · refine (pv_push h hk hE hQ).mono fun e w' hv => ?_
      obtain ⟨r, rfl, G', hG, hC, hW⟩ := hv
      rcases hG.out with ⟨rfl, h1, h2⟩ | ⟨rfl, h2⟩
      · exact ⟨false, 0, false, E, rfl, Lib.hid ⟨by omega, fun _ => rfl⟩, Lib.hid (.inr (.inl ⟨rfl, rfl, rfl, rfl⟩)), G', Lib.hid (.inr ⟨kk - 1, by omega, h2⟩), hC, hW⟩
      · exact ⟨true, 0, true, E + 1, rfl, Lib.hid ⟨by omega, fun e => by cases e⟩, Lib.hid (.inl ⟨rfl, rfl, rfl, rfl⟩), G', Lib.hid h2, hC, hW⟩
  · exact stay h h'
end
section
variable {w w' : World} {G : List Nat} {g gH r : Nat} {L : Nat → Nat → List UInt8} {n E Q M : Nat} {c d : Nat → List UInt8} {P : VX → Prop} {f : Bool}
theorem SVr.nin (h : SVr w gH g G n L Q M E c P r) : r ∉ G := by
  obtain ⟨b, gd, ga, gv, q, old, m, FD, FA, X, ⟨_, _, h1, _⟩, _⟩ := h
  exact h1
theorem sv_begin_any (h : SV w gH g G n L Q 0 E c (PF d c f)) (hE : E ≤ 900000) : Calls Tryz.prog 21 #[.pointer (some ⟨g, 0, none⟩)] w fun e w' => ∃ r : Bool, e = .returned (.bool r) ∧ GTo w G w' fun G' => PS3 w' gH g G' n L Q E c d false := by
  cases f
  · refine (sv_begin_not h (fun X hX => hX.2)).mono fun e w' hv => ?_
    obtain ⟨rfl, rfl⟩ := hv
    exact ⟨false, rfl, G, Lib.hid (.inl (h.imp fun _ _ _ => trivial)), Lib.hid (Chg.refl _ _), Lib.hid (Wider.refl _ _)⟩
  · refine (sv_begin h (fun X hX => ⟨hX.1.1, hX.2⟩) hE).mono fun e w' hv => ?_
    obtain ⟨rfl, G', h1, h2, h3⟩ := hv
    exact ⟨true, rfl, G', Lib.hid (.inr ⟨87, by omega, h1.out⟩), h2, h3⟩
end
def wantV (go gn cap : Nat) : Bool → Value
  | true => .slice (some ⟨gn, 0, none⟩) 16 cap
  | false => .slice (some ⟨go, 0, none⟩) 16 16
theorem want_row {w : World} {G : List Nat} {go gn cap g gH : Nat} {L : Nat → Nat → List UInt8} {n E Q : Nat} {eo en : Nat → Option (Nat × (Nat → UInt8))} {tl : List Value} {dn : Bool} (h : PS3 w gH g G n L Q E (elD eo) (elD en) dn) (ho : Own1 w G 35 go (elR eo)) (hn : Own1 w G 35 gn (elR en ++ tl)) (hoe : ElAll w G eo) (hne : ElAll w G en) :
    ∃ rw cw ew tw, wantV go gn cap dn = .slice (some ⟨rw, 0, none⟩) 16 cw ∧ Hid (Own1 w G 35 rw (elR ew ++ tw)) ∧ Hid (ElAll w G ew) ∧ Hid (CS w gH g G n L Q 0 E (elD ew)) := by
  have z := h.cs
  cases dn
  · exact ⟨go, 16, eo, [], rfl, Lib.hid (by rw [List.append_nil]; exact ho), Lib.hid hoe, Lib.hid z⟩
  · exact ⟨gn, cap, en, tl, rfl, Lib.hid hn, Lib.hid hne, Lib.hid z⟩
end Go.Proofs.YtpocccnhibjjcaaGreatDoor
