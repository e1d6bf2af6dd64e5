/- A commit of all slots: no place is passed without being written, so that the steps are just as many as places and two; how many blocks are free behind it. Conditions: the Hold lies there. -/
import Derived.Test.YtpocccnhibjjcaaGreatDoorVop
set_option linter.unusedVariables false
set_option maxRecDepth 20000
namespace Go.Proofs.YtpocccnhibjjcaaGreatDoor
open Go.RowKit

theorem full_ind {L : Nat → Nat → List UInt8} {n NB : Nat} {D : Nat → List UInt8} {top : RecV} {N : Nat → Nat → Nat → RecV} {c : Nat → List UInt8} (R : Nat × Nat → Prop) (ok : ∀ p, Plc n p → ¬ R p → RecOk L NB D (tr top N p.1 p.2) (plT n N c p)) (par : ∀ l i, l < n → i < 4 ^ l → R (l + 1, 4 * i) → R (l, i)) (hc : ∀ i, i < 4 ^ n → c i ≠ []) :
    ∀ d (p : Nat × Nat), Plc n p → p.1 + d = n → ¬ R p → (tr top N p.1 p.2).a ≠ 0 ∧ plT n N c p ≠ []
  | 0, p, hp, hd, hR => by
    have h1 : p.1 = n := hd
    have h2 : plT n N c p ≠ [] := by
      unfold plT
      rw [if_pos h1]
      exact hc p.2 (by have := hp.2; rw [h1] at this; exact this)
    refine ⟨fun h0 => ?_, h2⟩
    rcases ok p hp hR with ⟨_, e⟩ | ⟨m, e, _⟩
    · exact h2 e
    · omega
  | d + 1, (l, i), hp, hd, hR => by
    have hl : l < n := by simp only at hd; omega
    have hi : i < 4 ^ l := hp.2
    have hch : Plc n (l + 1, 4 * i) := ⟨by show l + 1 ≤ n; omega, by show 4 * i < 4 ^ (l + 1); rw [Nat.pow_succ]; omega⟩
    have ih := (full_ind R ok par hc d (l + 1, 4 * i) hch (by simp only at hd ⊢; omega) (fun h => hR (par l i hl hi h))).1
    have e : tr top N (l + 1) (4 * i) = N l i 0 := by rw [tr_up, show 4 * i / 4 = i by omega, show 4 * i % 4 = 0 by omega]
    have ih : (tr top N (l + 1) (4 * i)).a ≠ 0 := ih
    rw [e] at ih
    have h2 : plT n N c (l, i) ≠ [] := by
      unfold plT
      rw [if_neg (by show ¬ l = n; omega)]
      have hn4 : nil4 (N l i) = false := by
        cases hq : nil4 (N l i) with
        | false => rfl
        | true =>
          have h0 := List.all_eq_true.1 hq 0 (by simp)
          have h0 := (RecV.eqb_iff _ _).1 h0
          have h3 : (N l i 0).cs[0]? = rec0.cs[0]? := by rw [h0]
          have h4 : (N l i 0).a = 0 := by
            have h3 : some (Value.int .i64 (N l i 0).a) = some (.int .i64 0) := h3
            injection h3 with h3
            injection h3
          exact absurd h4 ih
      show (if nil4 (N l i) = true then [] else lst 256 (pk (N l i))) ≠ []
      rw [hn4, if_neg (by decide)]
      intro e
      have := congrArg List.length e
      rw [lst_len] at this
      cases this
    refine ⟨fun h0 => ?_, h2⟩
    rcases ok (l, i) hp hR with ⟨_, e⟩ | ⟨m, e, _⟩
    · exact h2 e
    · have h0 : (tr top N l i).a = 0 := h0
      have e : (tr top N l i).a = (m : Int) + 1 := e
      omega
section
variable {L : Nat → Nat → List UInt8} {n E : Nat} {N0 : Nat → Nat → Nat → RecV} {c c0 c1 : Nat → List UInt8} {pv : Value} {X : VX}
theorem CI.full_plain (h : CI L n N0 c0 c1 X) (hc : ∀ i, i < 4 ^ n → c1 i ≠ []) {p : Nat × Nat} {R : List (Nat × Nat)} (hR : X.rt = p :: R) : plainL X p.1 p.2 ≠ [] := by
  have hp : p ∈ X.rt := by rw [hR]; simp
  rw [h.plain hp]
  obtain ⟨l, i⟩ := p
  have hpl := h.rest _ hp
  by_cases e : l = n
  · unfold plT
    rw [if_pos e]
    exact hc i (by have := hpl.2; simp only at this; rw [e] at this; exact this)
  · have hl : l < n := by have := hpl.1; simp only at this; omega
    have hi : i < 4 ^ l := hpl.2
    have hself := h.par [] (l, i) R hR
    have hch : Plc n (l + 1, 4 * i) := ⟨by show l + 1 ≤ n; omega, by show 4 * i < 4 ^ (l + 1); rw [Nat.pow_succ]; omega⟩
    have hnot : (l + 1, 4 * i) ∉ X.rt := fun hx => by
      obtain ⟨pre, post, hs⟩ := List.append_of_mem hx
      have h2 := (h.par pre _ post hs).2 l rfl
      have h2 : (l, 4 * i / 4) ∈ post := h2
      rw [show 4 * i / 4 = i by omega] at h2
      cases pre with
      | nil =>
        rw [hR] at hs
        injection hs with hs _
        injection hs with hs _
        omega
      | cons q pre =>
        rw [hR] at hs
        injection hs with _ hs
        exact hself.1 (by rw [hs]; exact List.mem_append_right _ (List.mem_cons_of_mem _ h2))
    have key := (full_ind (fun x => x ∈ X.rt) h.cons (fun l i hl hi hx => by
      obtain ⟨pre, post, hs⟩ := List.append_of_mem hx
      have h2 := (h.par pre _ post hs).2 l rfl
      have h2 : (l, 4 * i / 4) ∈ post := h2
      rw [show 4 * i / 4 = i by omega] at h2
      rw [hs]
      exact List.mem_append_right _ (List.mem_cons_of_mem _ h2)) hc (n - (l + 1)) (l + 1, 4 * i) hch (by show l + 1 + (n - (l + 1)) = n; omega) hnot).1
    have e2 : tr X.c.top X.N (l + 1) (4 * i) = X.N l i 0 := by rw [tr_up, show 4 * i / 4 = i by omega, show 4 * i % 4 = 0 by omega]
    have key : (tr X.c.top X.N (l + 1) (4 * i)).a ≠ 0 := key
    rw [e2] at key
    unfold plT
    rw [if_neg (by show ¬ l = n; omega)]
    have hn4 : nil4 (X.N l i) = false := by
      cases hq : nil4 (X.N l i) with
      | false => rfl
      | true =>
        have h0 := List.all_eq_true.1 hq 0 (by simp)
        have h0 := (RecV.eqb_iff _ _).1 h0
        have h3 : (X.N l i 0).cs[0]? = rec0.cs[0]? := by rw [h0]
        have h4 : (X.N l i 0).a = 0 := by
          have h3 : some (Value.int .i64 (X.N l i 0).a) = some (.int .i64 0) := h3
          injection h3 with h3
          injection h3
        exact absurd h4 key
    show (if nil4 (X.N l i) = true then [] else lst 256 (pk (X.N l i))) ≠ []
    rw [hn4, if_neg (by decide)]
    intro e
    have := congrArg List.length e
    rw [lst_len] at this
    cases this
theorem RI.full (h : RI L n c X) (hc : ∀ i, i < 4 ^ n → c i ≠ []) {p : Nat × Nat} (hp : Plc n p) : (tr X.c.top X.N p.1 p.2).a ≠ 0 := by
  have ht := h.ai.tree
  rw [h.ar] at ht
  exact (full_ind (fun _ => False) (fun p hp _ => ht.ok p hp) (fun _ _ _ _ h => h) hc (n - p.1) p hp (by have := hp.1; omega) (fun h => h)).1
theorem plcs_nodup {n : Nat} (h : n ≤ 3) : (plcs n).Nodup := by
  match n, h with
  | 0, _ => decide +kernel
  | 1, _ => decide +kernel
  | 2, _ => decide +kernel
  | 3, _ => decide +kernel
theorem cnt_filter (N : Nat) (f : Nat → Bool) : S8.cnt N f = ((List.range N).filter f).length := by
  induction N with
  | zero => unfold S8.cnt; rfl
  | succ N ih =>
    unfold S8.cnt
    rw [List.range_succ, List.filter_append, List.length_append, ih]
    cases h : f N <;> simp [h]
theorem filter_two {α : Type} (f : α → Bool) : ∀ l : List α, (l.filter f).length + (l.filter fun x => !f x).length = l.length
  | [] => rfl
  | a :: l => by
    have ih := filter_two f l
    cases h : f a <;> simp [h] <;> omega
theorem RI.free_full (h : RI L n c X) (hc : ∀ i, i < 4 ^ n → c i ≠ []) : S8.nFree X.ss.length X.S + (plcs n).length = X.ss.length := by
  have ht := h.ai.tree
  rw [h.ar] at ht
  have hat : ∀ p, Plc n p → ∃ m : Nat, (tr X.c.top X.N p.1 p.2).a = (m : Int) + 1 ∧ m < X.ss.length ∧ X.S m = 1 := fun p hp => by
    rcases h.held p hp with h0 | ⟨m, h1, h2, h3⟩
    · exact absurd h0 (h.full hc hp)
    · exact ⟨m, h1, h2, h3⟩
  have two := filter_two (fun j => X.S j == 0) (List.range X.ss.length)
  rw [List.length_range] at two
  unfold S8.nFree
  rw [cnt_filter]
  have hU : ((plcs n).map fun p => (tr X.c.top X.N p.1 p.2).a.toNat - 1).Nodup := by
    refine List.pairwise_map.2 (List.Pairwise.imp_of_mem (fun {p x} hp hx hne e => hne ?_) (plcs_nodup h.n3))
    obtain ⟨m, h1, _⟩ := hat p (mem_plcs.1 hp)
    obtain ⟨k, h2, _⟩ := hat x (mem_plcs.1 hx)
    exact ht.inj p x (mem_plcs.1 hp) (mem_plcs.1 hx) (by omega) (by omega)
  have a1 : (plcs n).length ≤ ((List.range X.ss.length).filter fun j => !(X.S j == 0)).length := by
    have := nodup_sub_len (m := (List.range X.ss.length).filter fun j => !(X.S j == 0)) hU (fun j hj => by
      obtain ⟨p, hp, rfl⟩ := List.mem_map.1 hj
      obtain ⟨m, h1, h2, h3⟩ := hat p (mem_plcs.1 hp)
      have e : (tr X.c.top X.N p.1 p.2).a.toNat - 1 = m := by omega
      rw [e]
      exact List.mem_filter.2 ⟨List.mem_range.2 h2, by simp [h3]⟩)
    rw [List.length_map] at this
    exact this
  have a2 : ((List.range X.ss.length).filter fun j => !(X.S j == 0)).length ≤ (plcs n).length := by
    have := nodup_sub_len (m := (plcs n).map fun p => (tr X.c.top X.N p.1 p.2).a.toNat - 1) (List.Pairwise.filter (fun j => !(X.S j == 0)) (List.nodup_range (n := X.ss.length))) (fun j hj => by
      obtain ⟨hj1, hj2⟩ := List.mem_filter.1 hj
      have hj0 : X.S j ≠ 0 := by simpa using hj2
      obtain ⟨_, p, hp, hpa⟩ := h.one j hj0
      exact List.mem_map.2 ⟨p, mem_plcs.2 hp, by show (tr X.c.top X.N p.1 p.2).a.toNat - 1 = j; omega⟩)
    rw [List.length_map] at this
    exact this
  omega
theorem restL_full {C : Nat → Option BV} (hn : n ≤ 3) (h1 : 1 ≤ n) (hC : ∀ a, a ∈ keysN C → a < 4 ^ n) (hall : ∀ i, i < 4 ^ n → (C i).isSome = true) : (restL n C).length = (plcs n).length := by
  refine Nat.le_antisymm (restL_len (by omega) h1 hC) (nodup_sub_len (plcs_nodup hn) (fun p hp => ?_))
  obtain ⟨hp1, hp2⟩ := mem_plcs.1 hp
  refine (mem_restL (by omega) h1 hC).2 ⟨n - p.1, p.2 * 4 ^ (n - p.1), Nat.sub_le _ _, ?_, ?_⟩
  · have hlt : p.2 * 4 ^ (n - p.1) < 4 ^ n := by
      have e : 4 ^ n = 4 ^ p.1 * 4 ^ (n - p.1) := by rw [← Nat.pow_add]; congr 1; omega
      rw [e]
      exact Nat.mul_lt_mul_of_pos_right hp2 (Nat.pow_pos (by decide))
    refine keysN_mem.2 ⟨?_, hall _ hlt⟩
    have := Nat.pow_le_pow_right (n := 4) (by decide) (show n ≤ 4 by omega)
    have e : (4 : Nat) ^ 4 = 256 := rfl
    omega
  · obtain ⟨l, i⟩ := p
    show (l, i) = (n - (n - l), i * 4 ^ (n - l) / 4 ^ (n - l))
    rw [Nat.mul_div_cancel _ (Nat.pow_pos (by decide))]
    congr 1
    simp only at hp1
    omega
def QPh (g : Nat) (L : Nat → Nat → List UInt8) (n E : Nat) (N0 : Nat → Nat → Nat → RecV) (c0 c1 : Nat → List UInt8) (k : Nat) (X : VX) : Prop :=
  (CJ L n E N0 c0 c1 (stV 56 g) X ∧ X.rt.length + 2 = k) ∨ (DJ L n E N0 c0 c1 (stV 116 g) X ∧ k = 1)
end
section
variable {b : Nat} {w w' : World} {FD FA G : List Nat} {g q gv gH : Nat} {L : Nat → Nat → List UInt8} {X X' : VX} {n E k m Q M : Nat} {c d : Nat → List UInt8} {gd ga : Nat} {old : Value} {P : VX → Prop}
def QOut (b : Nat) (w : World) (F : List Nat) (g q gv : Nat) (L : Nat → Nat → List UInt8) (n E : Nat) (N0 : Nat → Nat → Nat → RecV) (c0 c1 : Nat → List UInt8) (k : Nat) (X0 : VX) (r : Bool) (w' : World) : Prop :=
  ∃ X, VTo b w F w' g q gv L X ∧ Hid (X.c.gd = X0.c.gd ∧ X.c.ga = X0.c.ga ∧ X.H = X0.H ∧ X.C = X0.C) ∧ ((r = false ∧ 2 ≤ k ∧ Hid (QPh g L n E N0 c0 c1 (k - 1) X)) ∨ (r = true ∧ k = 1 ∧ Hid (RI L n c1 X ∧ X.c.e = E + 1)))
theorem qpush {N0 : Nat → Nat → Nat → RecV} {c0 c1 : Nat → List UInt8} (h : VB b w FD FA g q gv L X) (hp : QPh g L n E N0 c0 c1 k X) (hc : ∀ i, i < 4 ^ n → c1 i ≠ []) (hE : E ≤ 900000) (hk : k ≤ 88) (hq : q + 90 ≤ 900000) :
    Calls Tryz.prog 14 #[.pointer (some ⟨g, 0, none⟩)] w (Ans (QOut b w (vfoot g X.c FD FA) g (q + 90) gv L n E N0 c0 c1 k X)) := by
  rcases hp with ⟨hj, hl⟩ | ⟨hd, hl⟩
  · have W : WInv L (fun Y => CJ L n E N0 c0 c1 (stV 56 g) Y ∧ Y.c.gd = X.c.gd ∧ Y.c.ga = X.c.ga ∧ Y.H = X.H ∧ Y.C = X.C ∧ Y.rt.length = X.rt.length) :=
      { rtv := fun Y v hY => ⟨CJ.winv.rtv Y v hY.1, hY.2⟩
        at_ := fun Y p R hY hR => CJ.winv.at_ Y p R hY.1 hR
        skip := fun Y p R hY hR hpl => absurd hpl (hY.1.ci.full_plain hc hR)
        room := fun Y p R hY hR hpl => CJ.winv.room Y p R hY.1 hR hpl }
    refine vpush_write h hj.fx.pf ((vwrite W h ⟨hj, rfl, rfl, rfl, rfl, rfl⟩ (by omega)).mono fun e w' hv => ?_)
    obtain ⟨rfl, ⟨Y, p, R, m, x, y, us, rt, ⟨hY, hgd, hga, hH, hC, hlen⟩, hR, hle, hne, hm, hy, hx, hT⟩ | ⟨Y, ⟨hY, hgd, hga, hH, hC, hlen⟩, hR, hT⟩⟩ := hv
    · have hlR : R.length + 1 = X.rt.length := by rw [← hlen, hR, List.length_cons]
      refine ⟨false, rfl, _, hT.mono (by omega) hq, Lib.hid ⟨(repl_gd _ _ p).trans hgd, (repl_ga _ _ p).trans hga, (repl_H _ _ p).trans hH, (repl_C _ _ p).trans hC⟩, .inl ⟨rfl, by omega, Lib.hid (.inl ⟨⟨hY.ci.seal hR us rt hm hy hx hne ?_, (hY.fx.sealed rt R m x y us).repl' _ p⟩, ?_⟩)⟩⟩
      · exact (CI.winv.room Y p R hY.ci hR hne).1
      · rw [repl_rt']
        show R.length + 2 = k - 1
        omega
    · have hl0 : X.rt.length = 0 := by rw [← hlen, hR]; rfl
      exact ⟨false, rfl, _, hT.mono (by omega) hq, Lib.hid ⟨hgd, hga, hH, hC⟩, .inl ⟨rfl, by omega, Lib.hid (.inr ⟨hY.synced hR g, by omega⟩)⟩⟩
  · have ht : ∃ a : Nat, X.c.top.a = (a : Int) ∧ a < 65536 := by
      have := hd.nb
      rcases hd.held (0, 0) zero_plc with e | ⟨m, e, hm, _⟩
      · exact ⟨0, e, by decide⟩
      · exact ⟨m + 1, e, by omega⟩
    obtain ⟨a, ha, ha2⟩ := ht
    refine vpush_finish h hd.fx.pf ((vfinish h hd.fx.ae (by rw [hd.fx.e_]; exact hE) a ha ha2 hd.tree.top_ (by omega)).mono fun e w' hv => ?_)
    obtain ⟨rfl, hT⟩ := hv
    exact ⟨true, rfl, _, hT.mono (by omega) hq, Lib.hid ⟨rfl, rfl, rfl, rfl⟩, .inr ⟨rfl, hl, Lib.hid ⟨hd.finished, by show X.c.e + 1 = _; rw [hd.fx.e_]⟩⟩⟩
def QV (w : World) (gH g : Nat) (G : List Nat) (n : Nat) (L : Nat → Nat → List UInt8) (Q M E : Nat) (d : Nat → List UInt8) (k : Nat) : Prop :=
  ∃ b gd ga gv q old m FD FA X N0 c, HS b w gH G n gd ga gv g q L old m FD FA X ∧ QPh g L n E N0 c d k X ∧ q ≤ Q ∧ m ≤ M ∧ (X.C = fun _ => none)
theorem QV.cell (h : QV w gH g G n L Q M E d k) : w.cell? ⟨gH, 4, none⟩ = some (.pointer (some ⟨g, 0, none⟩)) := by
  obtain ⟨b, gd, ga, gv, q, old, m, FD, FA, X, N0, c, h1, _⟩ := h
  exact hv_cell h1.row
theorem QV.below (h : QV w gH g G n L Q M E d k) (hb : Below w.heap.size w w') : QV w' gH g G n L Q M E d k := by
  obtain ⟨b, gd, ga, gv, q, old, m, FD, FA, X, N0, c, h1, h2⟩ := h
  exact ⟨b, gd, ga, gv, q, old, m, FD, FA, X, N0, c, h1.below hb, h2⟩
theorem sv_begin_full (h : SV w gH g G n L Q M E c P) (hd : ∀ X, P X → ovC X.C c = d ∧ ∀ i, i < 4 ^ n → (X.C i).isSome = true) (hE : E ≤ 900000) : Calls Tryz.prog 21 #[.pointer (some ⟨g, 0, none⟩)] w fun e w' => e = .returned (.bool true) ∧ GTo w G w' fun G' => QV w' gH g G' n L Q M E d ((plcs n).length + 2) := by
  obtain ⟨b, gd, ga, gv, q, old, m, FD, FA, X, h1, h2, h3, h4, h5, h6⟩ := h
  have h7 := (hd X h6).2
  refine (vbegin h1.vb h2.pf h2.un ⟨0, by decide, h7 0 (Nat.pow_pos (by decide))⟩).mono fun e w' hv => ?_
  obtain ⟨rfl, gg, rt, hT⟩ := hv
  have hrt : (X.begun g gg rt).rt = restL n X.C := by show restL X.c.n X.C = _; rw [h2.n_]
  obtain ⟨G', FD', FA', k1, k2, k3⟩ := h1.to hT rfl rfl
  have hj := h2.begun_j g gg rt (fun a x hx => (h1.vb.cb a x hx).2) (by omega)
  rw [(hd X h6).1, h3] at hj
  exact ⟨rfl, G', Lib.hid ⟨b, gd, ga, gv, q, old, m, FD', FA', _, X.N, c, k1, .inl ⟨hj, by rw [hrt, restL_full h2.n3 h2.n1 h2.keys h7]⟩, h4, h5, rfl⟩, Lib.hid k2, Lib.hid k3⟩
theorem qv_push (h : QV w gH g G n L Q M E d k) (hc : ∀ i, i < 4 ^ n → d i ≠ []) (hk : k ≤ 88) (hE : E ≤ 900000) (hQ : Q + 90 ≤ 900000) : Calls Tryz.prog 14 #[.pointer (some ⟨g, 0, none⟩)] w fun e w' => ∃ r, e = .returned (.tuple #[.bool r, .int .i64 0]) ∧ GTo w G w' fun G' => (r = false ∧ 2 ≤ k ∧ QV w' gH g G' n L (Q + 90) M E d (k - 1)) ∨ (r = true ∧ k = 1 ∧ SV w' gH g G' n L (Q + 90) M (E + 1) d fun X => X.C = fun _ => none) := by
  obtain ⟨b, gd, ga, gv, q, old, m, FD, FA, X, N0, c, h1, h2, h4, h5, h6⟩ := h
  refine (qpush h1.vb h2 hc hE hk (by omega)).mono fun e w' hv => ?_
  obtain ⟨r, rfl, X', hT, hG, hO⟩ := hv
  obtain ⟨G', FD', FA', k1, k2, k3⟩ := h1.to hT hG.out.1 hG.out.2.1
  refine ⟨r, rfl, G', Lib.hid ?_, Lib.hid k2, Lib.hid k3⟩
  rcases hO with ⟨rfl, hk2, h⟩ | ⟨rfl, hk1, h⟩
  · exact .inl ⟨rfl, hk2, b, gd, ga, gv, q + 90, old, m, FD', FA', X', N0, c, k1, h.out, by omega, h5, hG.out.2.2.2.trans h6⟩
  · exact .inr ⟨rfl, hk1, b, gd, ga, gv, q + 90, old, m, FD', FA', X', k1, h.out.1, h.out.2, by omega, h5, hG.out.2.2.2.trans h6⟩
theorem sv_room (h : SV w gH g G n L Q M E c P) (hc : ∀ i, i < 4 ^ n → c i ≠ []) : ∃ gd F NB : Nat, Hid (F + (plcs n).length = NB ∧ NB ≤ 1024) ∧ w.cell? ⟨gH, 1, none⟩ = some (.pointer (some ⟨gd, 0, none⟩)) ∧ Hid (Calls Tryz.prog 25 #[.pointer (some ⟨g, 0, none⟩)] w fun e w' => e = .returned (.int .i64 (F : Int)) ∧ w = w') ∧ Hid (Calls Tryz.prog 35 #[.pointer (some ⟨gd, 0, none⟩)] w fun e w' => e = .returned (.int .i64 (NB : Int)) ∧ w' = w) := by
  obtain ⟨b, gd, ga, gv, q, old, m, FD, FA, X, h1, h2, h3, h4, h5, h6⟩ := h
  have hd := h1.vb.dsk
  rw [h1.gd_] at hd
  exact ⟨gd, _, _, Lib.hid ⟨h2.free_full hc, h2.nb⟩, hd_cell h1.row, Lib.hid (vfree h1.vb), Lib.hid hd.blocks⟩
end
theorem and_ff (z : Int) : ∃ m : Nat, m < 256 ∧ bits .and .i64 z 255 = (m : Int) := by
  have h7 : (BitVec.ofInt 64 255).toNat = 2 ^ 8 - 1 := by decide
  have key : (BitVec.ofInt 64 z &&& BitVec.ofInt 64 255).toNat = (z % ((2 ^ 64 : Nat) : Int)).toNat % 2 ^ 8 := by
    rw [BitVec.toNat_and, BitVec.toNat_ofInt, h7, Nat.and_two_pow_sub_one_eq_mod]
  refine ⟨(z % ((2 ^ 64 : Nat) : Int)).toNat % 2 ^ 8, Nat.mod_lt _ (by decide), ?_⟩
  show IntKind.i64.wrap ((BitVec.ofInt 64 z &&& BitVec.ofInt 64 255).toNat : Nat) = _
  rw [key, IntKind.wrap_i64]
  omega
section
variable {w : World} {G : List Nat} {g gH : Nat} {L : Nat → Nat → List UInt8} {n E Q M k : Nat} {c d : Nat → List UInt8}
theorem sv_commit1 (h : SV w gH g G n L Q M E c fun X => ovC X.C c = d) (hE : E ≤ 900000) (hQ : Q + 9000 ≤ 900000) : Calls Tryz.prog 31 #[.pointer (some ⟨gH, 0, none⟩)] w fun e w' => e = .returned (.bool true) ∧ GTo w G w' fun G' => ∃ E', E' ≤ E + 1 ∧ SV w' gH g G' n L (Q + 9000) M E' d fun X => X.C = fun _ => none := by
  refine (sv_commit h d (fun X hX => hX) hE hQ).mono fun e w' hv => ?_
  obtain ⟨rfl, G', h1, h2, h3⟩ := hv
  refine ⟨rfl, G', Lib.hid ?_, h2, h3⟩
  obtain ⟨E', h1⟩ := h1.out
  have hE' : E' ≤ E + 1 := by
    obtain ⟨_, _, _, _, _, _, _, _, _, _, _, _, _, _, _, X, _, _, _, h4⟩ := h1
    rcases h4 with h4 | ⟨h4, _⟩ <;> omega
  exact ⟨E', hE', h1.imp fun X' _ hp => by obtain ⟨X, _, h, _⟩ := hp; exact h⟩
theorem QV.pos (h : QV w gH g G n L Q M E d k) : 1 ≤ k := by
  obtain ⟨b, gd, ga, gv, q, old, m, FD, FA, X, N0, c, h1, h2, _⟩ := h
  rcases h2 with ⟨_, h⟩ | ⟨_, h⟩ <;> omega
theorem SV.n13 {P : VX → Prop} (h : SV w gH g G n L Q M E c P) : 1 ≤ n ∧ n ≤ 3 := by
  obtain ⟨b, gd, ga, gv, q, old, m, FD, FA, X, h1, h2, _⟩ := h
  exact ⟨h2.n1, h2.n3⟩
theorem ov_clear {X : VX} (h : X.C = fun _ => none) : ovC X.C d = d := by
  funext i
  unfold ovC
  rw [h]
end
section
variable {o : Oper} {a : Act} {w : World} {K : Act → World → Prop} {Q : Exit → Act → World → Prop}
theorem k_bs2 (x y : Operand) (ho : o.op = .buildSlice 35 2 #[(0, x), (1, y)]) (k j : Nat) (hk : k < 256) (hj : j < 256) (hx : a.eval x = .int .u8 (k : Int)) (hy : a.eval y = .int .u8 (j : Int))
    (h : ∀ g w', Hol w' (some ⟨g, 0, none⟩) [UInt8.ofNat k, UInt8.ofNat j] → Below w.heap.size w w' → K (a.put o.dst (.slice (some ⟨g, 0, none⟩) 2 2)) w') : Oper.wp Tryz.prog o a w K Q := by
  unfold Oper.wp execOp
  simp only [ho, Sem.run_bind, List.map_toArray, List.map_cons, List.map_nil, hx, hy, V4.bs_two, Result.andThen_ok]
  exact h _ _ (Hol.own (V4.own_two w k j hk hj)) ((Below.refl _ _).alloc (Nat.le_refl _) _)
end
end Go.Proofs.YtpocccnhibjjcaaGreatDoor
