/- A table of the call's own, made pad by pad, and its bytes written over. No conditions but those named. -/
import Derived.Test.YtecojmafnonkiaaFew
import Derived.Test.YtecojmafnonkiaaRKey
set_option linter.unusedVariables false
namespace Go.Proofs.Ytecojmafnonkiaa
open Go.RowKit

/-- A pad's three cells. -/
def pc (q : PadV) : List Value := [.int .u32 (q.e : Int), .int .u32 (q.s : Int), .slice q.A q.l.length q.c]
def pcs (qs : List PadV) : List Value := qs.flatMap pc
theorem pcs_nil : pcs [] = [] := rfl
theorem pcs_snoc (qs : List PadV) (q : PadV) : pcs (qs ++ [q]) = pcs qs ++ pc q := by simp [pcs]
theorem pcs_len : ∀ qs : List PadV, (pcs qs).length = qs.length * 3
  | [] => rfl
  | q :: t => by
    have := pcs_len t
    unfold pcs at this ⊢
    rw [List.flatMap_cons, List.length_append, this]
    simp [pc]
    omega
theorem pcs_get : ∀ {qs : List PadV} {j : Nat} {q : PadV}, qs[j]? = some q → ∀ i, i < 3 → (pcs qs)[j * 3 + i]? = (pc q)[i]?
  | [], j, q, h, _, _ => by simp at h
  | a :: t, 0, q, h, i, hi => by
    simp at h
    subst h
    unfold pcs
    rw [List.flatMap_cons, Nat.zero_mul, Nat.zero_add, List.getElem?_append_left (by simpa [pc] using hi)]
  | a :: t, j + 1, q, h, i, hi => by
    have h' : t[j]? = some q := by simpa using h
    have := pcs_get h' i hi
    unfold pcs at this ⊢
    rw [List.flatMap_cons, List.getElem?_append_right (by simp [pc]; omega)]
    have e1 : (pc a).length = 3 := rfl
    rw [e1, show (j + 1) * 3 + i - 3 = j * 3 + i by omega]
    exact this
theorem pc_one (q : PadV) : ∀ u ∈ pc q, u.oneCell' = true := pad_one _ _ _ _ _
/-- What a pad says. -/
def key3 (p : PadV) : Nat × Nat × List UInt8 := (p.e, p.s, p.l)
theorem cutL_key {ps qs : List PadV} (h : qs.map key3 = ps.map key3) (e s : Nat) : cutL qs e s = cutL ps e s := by
  have hk : ∀ xs : List PadV, cutL xs e s = match (xs.map key3).find? (fun t => t.1 == e && t.2.1 == s) with | some t => t.2.2.take 4096 | none => [] := by
    intro xs
    unfold cutL hit
    rw [List.find?_map]
    have e1 : ((fun t : Nat × Nat × List UInt8 => t.1 == e && t.2.1 == s) ∘ key3) = fun p : PadV => p.e == e && p.s == s := rfl
    rw [e1]
    cases List.find? (fun p : PadV => p.e == e && p.s == s) xs with
    | none => rfl
    | some p => rfl
  rw [hk qs, hk ps, h]
/-- A pad's bytes lie in a block of the call's own. -/
def Mine (b : Nat) (w : World) (q : PadV) : Prop := w.ownsRow b 5 1 (.slice q.A q.l.length q.c) q.l.length (bc q.l)
theorem own_apart {w : World} {b b' : Nat} {e e' : TypeId} {s s' n n' : Nat} {v v' : Value} {xs xs' : List Value} (h : w.ownsRow b e s v n xs) (h' : w.ownsRow b' e' s' v' n' xs') (hne : e ≠ e') : v.ownBlock = none ∨ v.ownBlock ≠ v'.ownBlock := by
  rcases h.2 with ⟨rfl, _⟩ | ⟨g, cap, cur, rfl, _, hg, _⟩
  · exact .inl rfl
  · refine .inr fun he => ?_
    rcases h'.2 with ⟨rfl, _⟩ | ⟨g', cap', cur', rfl, _, hg', _⟩
    · simp [Value.ownBlock] at he
    · simp [Value.ownBlock] at he
      subst he
      rw [hg] at hg'
      injection hg' with hg'
      injection hg' with _ ht
      exact hne ht
/-- The table as it grows. -/
structure OwnT (b : Nat) (w : World) (v : Value) (qs ps : List PadV) : Prop where
  row : w.ownsRow b 38 3 v qs.length (pcs qs)
  mine : ∀ (j : Nat) (q : PadV), qs[j]? = some q → Mine b w q
  keys : qs.map key3 = ps.map key3
theorem OwnT.start (b : Nat) (w : World) : OwnT b w (.slice none 0 0) [] [] := ⟨World.ownsRow_nil _ _ _ _, fun j q h => by simp at h, rfl⟩
theorem OwnT.kept {b : Nat} {w w' : World} {v : Value} {qs ps : List PadV} (h : OwnT b w v qs ps) (hb : Below w.heap.size w w') : OwnT b w' v qs ps :=
  ⟨own_kept h.row hb, fun j q hq => own_kept (h.mine j q hq) hb, h.keys⟩
theorem own_lower {w : World} {base base' size n : Nat} {e : TypeId} {v : Value} {xs : List Value} (h : w.ownsRow base e size v n xs) (hb : base' ≤ base) : w.ownsRow base' e size v n xs := by
  refine ⟨h.1, ?_⟩
  rcases h.2 with h0 | ⟨g, cap, cur, h1, h2, h3⟩
  · exact .inl h0
  · exact .inr ⟨g, cap, cur, h1, Nat.le_trans hb h2, h3⟩
theorem OwnT.more {b bq k c2 : Nat} {w2 w3 : World} {v0 v3 : Value} {qs ps : List PadV} {p : PadV} {A2 : Option Addr} (h : OwnT b w2 v0 qs (ps.take k)) (hp : ps[k]? = some p)
    (hm : w2.ownsRow bq 5 1 (.slice A2 p.l.length c2) p.l.length (bc p.l)) (hbq : b ≤ bq) (o : Obj) (hg : (w2.alloc o).grownBy w3 v0.ownBlock)
    (hr : w3.ownsRow b 38 3 v3 (qs.length + 1) (pcs qs ++ pc ⟨p.e, p.s, A2, c2, p.l⟩)) : OwnT b w3 v3 (qs ++ [⟨p.e, p.s, A2, c2, p.l⟩]) (ps.take (k + 1)) := by
  have hte : 5 ≠ 38 := by decide
  refine ⟨by rw [pcs_snoc, List.length_append]; exact hr, fun j q hq => ?_, ?_⟩
  · by_cases hj : j < qs.length
    · rw [List.getElem?_append_left hj] at hq
      have h1 := h.mine j q hq
      exact (h1.alloc o).kept hg (own_apart (h1.alloc o) (h.row.alloc o) hte)
    · rw [List.getElem?_append_right (by omega)] at hq
      have h1 : q = ⟨p.e, p.s, A2, c2, p.l⟩ := by
        have h2 := List.mem_of_getElem? hq
        simpa using h2
      subst h1
      have h1 : Mine b w2 ⟨p.e, p.s, A2, c2, p.l⟩ := own_lower hm hbq
      exact (h1.alloc o).kept hg (own_apart (h1.alloc o) (h.row.alloc o) hte)
  · rw [List.map_append, h.keys, List.take_add_one, hp]
    simp [key3]
theorem OwnT.pads {b : Nat} {w : World} {A : Option Addr} {c n : Nat} {qs ps : List PadV} (h : OwnT b w (.slice A n c) qs ps) (hl : ∀ (j : Nat) (q : PadV), qs[j]? = some q → q.l.length ≤ 5000) : PadsAt w A qs := by
  intro j q hq
  have hj := (List.getElem?_eq_some_iff.1 hq).1
  rcases h.row.2 with ⟨_, h0⟩ | ⟨g, cap, cur, e0, _, hg, _⟩
  · omega
  · simp only [Value.slice.injEq] at e0
    obtain ⟨rfl, _, _⟩ := e0
    have hc : ∀ i, i < 3 → ∀ u, (pc q)[i]? = some u → w.cell? ⟨g, 0 + (j * 3 + i), none⟩ = some u := fun i hi u hu => by
      have := h.row.cells (g := g) rfl (j * 3 + i) u (by rw [pcs_get hq i hi]; exact hu)
      rw [Addr.add_lit] at this
      exact this
    refine ⟨g, 0, rfl, ?_, ?_, ?_, Hol.own (h.mine j q hq), Nat.le_trans (hl j q hq) (by omega)⟩
    · exact hc 0 (by omega) _ rfl
    · exact hc 1 (by omega) _ rfl
    · exact hc 2 (by omega) _ rfl
theorem own_cap {w : World} {base n cap : Nat} {e : TypeId} {A : Option Addr} {xs : List Value} (h : w.ownsRow base e 1 (.slice A n cap) n xs) : n ≤ cap := by
  rcases h.2 with ⟨e0, rfl⟩ | ⟨g, cap', cur, e0, _, _, hc, _⟩
  · omega
  · simp only [Value.slice.injEq] at e0
    omega
theorem OwnT.twin {b : Nat} {w : World} {v : Value} {qs ps : List PadV} (h : OwnT b w v qs ps) {j : Nat} {q : PadV} (hq : qs[j]? = some q) : ∃ p, ps[j]? = some p ∧ p.e = q.e ∧ p.s = q.s ∧ p.l = q.l := by
  have h1 := congrArg (fun l => l[j]?) h.keys
  simp only [List.getElem?_map, hq, Option.map_some] at h1
  cases hp : ps[j]? with
  | none => rw [hp] at h1; cases h1
  | some p =>
    rw [hp] at h1
    simp only [Option.map_some, Option.some.injEq, key3, Prod.mk.injEq] at h1
    exact ⟨p, rfl, h1.1.symm, h1.2.1.symm, h1.2.2.symm⟩
theorem OwnT.small {b : Nat} {w : World} {v : Value} {qs ps : List PadV} (h : OwnT b w v qs ps) (hF : FewP ps) : ∀ (j : Nat) (q : PadV), qs[j]? = some q → q.l.length ≤ 5000 := fun j q hq => by
  obtain ⟨p, hp, _, _, hl⟩ := h.twin hq
  rw [← hl]
  exact hF.2 j p hp
theorem OwnT.ok {b : Nat} {w : World} {v : Value} {qs ps : List PadV} (h : OwnT b w v qs ps) (hO : PadsOk ps) : PadsOk qs := fun j q hq => by
  obtain ⟨p, hp, he, hs, hl⟩ := h.twin hq
  obtain ⟨h1, h2, _⟩ := hO j p hp
  exact ⟨by rw [← he]; exact h1, by rw [← hs]; exact h2, own_cap (h.mine j q hq)⟩
theorem OwnT.cut {b : Nat} {w : World} {v : Value} {qs ps : List PadV} (h : OwnT b w v qs ps) : cutL qs = cutL ps := by
  funext e s
  exact cutL_key h.keys e s
/-- One pad more, at a step of a region that draws. -/
theorem step_rec {P : Program} {w : World} {ops : Array Oper} {o : Oper} {a : Act} {K : Act → World → Prop} {Q : Exit → Act → World → Prop} {E : Prop} (hgd : o.guard = none) (s x : Operand) (t : TypeId)
    (ho : o.op = .call { callee := .builtin .append, args := #[s, x], argTypes := #[t, t] })
    (e : TypeId) (i : TypeInfo) (z : Value) (ht : P.underlying t = some (.slice e)) (hi : P.info? e = some i) (hz : i.zero = some z) (h3 : i.size = 3) (by_ : Nat) (hby : i.bytes = by_) (hby2 : by_ ≤ 64) (hzs : z.cells.size = 3)
    (base : Nat) (v : Value) (n : Nat) (xs : List Value) (hs : a.eval s = v) (hown : w.ownsRow base e 3 v n xs)
    (g : Nat) (cs : List Value) (hx : a.eval x = .slice (some ⟨g, 0, none⟩) 1 1) (hl : cs.length = 3) (hc : ∀ j u, cs[j]? = some u → w.cell? ⟨g, j, none⟩ = some u) (h1 : ∀ u ∈ cs, u.oneCell' = true) (hn : n ≤ 1000) (hbase : base ≤ w.heap.size)
    (h : ∀ v' w', w'.ownsRow base e 3 v' (n + 1) (xs ++ cs) → w.grownBy w' v.ownBlock → (v'.ownBlock = v.ownBlock ∨ v'.ownBlock = some w.heap.size) → K (a.put o.dst v') w') :
    if Region.wanted o (yielded ops a.tmps) = true then Oper.wp P o a w K Q else E := by
  have hw : Region.wanted o (yielded ops a.tmps) = true := by simp [Region.wanted, hgd]
  rw [if_pos hw]
  obtain ⟨v', w', hr, h2, h3', _, h5⟩ := run_append_own_at (P := P) w base t o.type e i z 3 by_ ht hi hz h3 hby hzs (by decide) v n xs hown ⟨g, 0, none⟩ 1 1 cs (by rw [hl]) (fun j u hu => by rw [Addr.add_lit, Nat.zero_add]; exact hc j u hu) h1
    (by unfold maxLen; omega) (Nat.le_trans (Nat.mul_le_mul (show n + 1 ≤ 1001 by omega) hby2) (by omega)) hbase
  unfold Oper.wp execOp
  simp only [ho, resolve, invoke, builtin, Sem.run_bind, Sem.run_pure, Result.andThen_ok, List.map_toArray, List.map_cons, List.map_nil, hs, hx, hr]
  exact h v' w' h2 h3' h5
theorem info_pad : (Try.prog.info? 38).map (fun i => (i.zero, i.size, i.bytes)) = some (some (.agg #[.int .u32 0, .int .u32 0, .slice none 0 0]), 3, 32) := by kernel_rfl

/-- A table as it stays while its bytes are written over. -/
def Tbl (w : World) (A : Option Addr) (qs : List PadV) : Prop := qs = [] ∨ ∃ g cur, A = some ⟨g, 0, none⟩ ∧ w.heap[g]? = some (.cells cur 38 (0, 0)) ∧ cur.toList.take (qs.length * 3) = pcs qs
def Room (b B : Nat) (w : World) (q : PadV) : Prop := q.l = [] ∨ ∃ g cs, q.A = some ⟨g, 0, none⟩ ∧ w.heap[g]? = some (.cells cs 5 (0, 0)) ∧ q.l.length ≤ cs.size ∧ b ≤ g ∧ g < B
structure Mut (B : Nat) (w1 w2 w : World) (A : Option Addr) (qs : List PadV) : Prop where
  tbl : Tbl w A qs
  room : ∀ (j : Nat) (q : PadV), qs[j]? = some q → Room w1.heap.size B w q
  kept : Kept B w2 w
  below : Below w1.heap.size w1 w
theorem Mut.start {w1 w w2 : World} {A : Option Addr} {c n : Nat} {qs ps : List PadV} (h : OwnT w1.heap.size w (.slice A n c) qs ps) (hb : Below w.heap.size w w2) (h1 : Below w1.heap.size w1 w) : Mut w.heap.size w1 w2 w2 A qs := by
  refine ⟨?_, fun j q hq => ?_, ⟨Nat.le_refl _, fun _ _ _ => rfl⟩, h1.trans (hb.mono h1.size)⟩
  · rcases h.row.2 with ⟨_, h0⟩ | ⟨g, cap, cur, e0, _, hg, _, _, _, ht⟩
    · exact .inl (List.eq_nil_of_length_eq_zero h0)
    · simp only [Value.slice.injEq] at e0
      obtain ⟨rfl, _, _⟩ := e0
      exact .inr ⟨g, cur, rfl, (hb.block g (Array.getElem?_eq_some_iff.1 hg).1).trans hg, ht⟩
  · have hm := h.mine j q hq
    rcases hm.2 with ⟨_, h0⟩ | ⟨g, cap, cur, e0, hbg, hg, hn, _, hs, _⟩
    · exact .inl (List.eq_nil_of_length_eq_zero h0)
    · simp only [Value.slice.injEq] at e0
      obtain ⟨e1, _, _⟩ := e0
      have hgl := (Array.getElem?_eq_some_iff.1 hg).1
      exact .inr ⟨g, cur, e1, (hb.block g hgl).trans hg, by omega, hbg, hgl⟩
theorem Mut.cell {B : Nat} {w1 w2 w : World} {A : Option Addr} {qs : List PadV} (h : Mut B w1 w2 w A qs) {j : Nat} {q : PadV} (hq : qs[j]? = some q) : ∃ g, A = some ⟨g, 0, none⟩ ∧ w.cell? ⟨g, j * 3 + 2, none⟩ = some (.slice q.A q.l.length q.c) := by
  have hj := (List.getElem?_eq_some_iff.1 hq).1
  rcases h.tbl with rfl | ⟨g, cur, rfl, hg, ht⟩
  · simp at hq
  · refine ⟨g, rfl, ?_⟩
    rw [cell_of_row w g _ cur _ _ hg]
    have h1 := pcs_get hq 2 (by omega)
    rw [← ht, List.getElem?_take, if_pos (by omega)] at h1
    rw [← Array.getElem?_toList, h1]
    rfl
theorem Mut.at_ {B : Nat} {w1 w2 w : World} {A : Option Addr} {qs : List PadV} (h : Mut B w1 w2 w A qs) {j : Nat} {q : PadV} (hq : qs[j]? = some q) {k : Nat} (hk : k < q.l.length) (u : Value) :
    ∃ g u0, q.A = some ⟨g, 0, none⟩ ∧ w.cell? ⟨g, k, none⟩ = some u0 ∧ w.frozen? ⟨g, k, none⟩ = false ∧ Mut B w1 w2 (w.setCell ⟨g, k, none⟩ u) A qs := by
  rcases h.room j q hq with h0 | ⟨g, cs, e1, hg, hs, hb, hB⟩
  · rw [h0] at hk
    simp at hk
  · refine ⟨g, cs[k]'(by omega), e1, ?_, ?_, ?_⟩
    · rw [cell_of_row w g k cs _ _ hg, Array.getElem?_eq_getElem (by omega)]
    · simp [World.frozen?, hg]
    · have hset := heap_set hg k u
      refine ⟨?_, fun j' q' hq' => ?_, ?_, h.below.setCell hb _⟩
      · rcases h.tbl with h0 | ⟨g', cur, e2, hg', ht⟩
        · exact .inl h0
        · refine .inr ⟨g', cur, e2, ?_, ht⟩
          rw [Below.heap_setCell w _ u g' (by
            rintro rfl
            rw [hg] at hg'
            injection hg' with hg'
            injection hg' with _ htt
            exact absurd htt (by decide))]
          exact hg'
      · rcases h.room j' q' hq' with h0 | ⟨g', cs', e2, hg', hs', hb', hB'⟩
        · exact .inl h0
        · by_cases hgg : g' = g
          · subst hgg
            rw [hg] at hg'
            injection hg' with hg'
            injection hg' with hcs _
            subst hcs
            exact .inr ⟨g', _, e2, hset, by simpa using hs', hb', hB'⟩
          · exact .inr ⟨g', cs', e2, by rw [Below.heap_setCell w _ u g' hgg]; exact hg', hs', hb', hB'⟩
      · exact ⟨by simp [World.setCell]; exact h.kept.1, fun i hi hlt => by rw [Below.heap_setCell w _ u i (show i ≠ g by omega)]; exact h.kept.2 i hi hlt⟩
theorem ideal_n (A : Option Addr) (c n : Nat) (ps : List PadV) (hn : n = ps.length) (hps : n ≤ 200) (w : World) (hP : PadsAt w A ps) (hO : PadsOk ps) :
    Calls Try.prog 14 #[.slice A n c] w fun x w' => ∃ g, x = .returned (.pointer (some ⟨g, 0, none⟩)) ∧ w.heap.size ≤ g ∧ IdealAt w.heap.size w' g (cutL ps) ∧ Below w.heap.size w w' := by
  subst hn
  exact ideal_any A c ps (Nat.le_trans hps (by decide)) w hP hO
theorem run_make_b (n : Nat) (hn : n ≤ 4096) (w : World) : (Instr.makeSlice 22 (.int .i64 (n : Int)) (.int .i64 (n : Int))).run Try.prog w = .ok (.slice (some ⟨w.heap.size, 0, none⟩) n n) (w.alloc (.cells (brr n fun _ => 0).toArray 5)) := by
  obtain ⟨i, U⟩ := u8_tab
  have hr := run_make (P := Try.prog) w 22 5 i (.int .u8 0) U.ht U.hi U.hz .i64 .i64 n n (by omega) (Int.le_refl _) (by rw [U.h2]; omega) (by omega)
  simp only [Int.toNat_natCast, U.h1] at hr
  rw [made_brr] at hr
  exact hr
end Go.Proofs.Ytecojmafnonkiaa
