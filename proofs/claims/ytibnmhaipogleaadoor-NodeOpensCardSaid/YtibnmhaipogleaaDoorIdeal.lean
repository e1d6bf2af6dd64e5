/- A veil made of a table: what the call leaves. Conditions: the table lies there, its epochs and sequences are numbers of 32 bits, its pads' bytes are within their rows. -/
import Derived.Test.YtibnmhaipogleaaDoorTab
import Derived.StillTailTactics
import Derived.Deep.RegionHeld3
import Derived.Laws.Small
set_option linter.unusedVariables false
namespace Go.Proofs.YtibnmhaipogleaaDoor
open Go.RowKit

/-- Pads that may be looked up and cut. -/
def PadsOk (ps : List PadV) : Prop := ∀ (j : Nat) (p : PadV), ps[j]? = some p → p.e < 4294967296 ∧ p.s < 4294967296 ∧ p.l.length ≤ p.c
/-- The first pad of a nonce. -/
def hit (ps : List PadV) (e s : Nat) : Option PadV := ps.find? fun p => p.e == e && p.s == s
/-- The bytes of it that a mask may tell. -/
def cutL (ps : List PadV) (e s : Nat) : List UInt8 := match hit ps e s with
  | some p => p.l.take 4096
  | none => []
theorem pm_hit (ps : List PadV) (e s j : Nat) : pm ps e s j = match hit ps e s with
    | some p => p.l.getD j 0
    | none => 0 := rfl
theorem cutL_pm (ps : List PadV) (e s n : Nat) (hn : n ≤ 4096) : (brr n fun j => (cutL ps e s).getD j 0) = brr n (pm ps e s) := brr_congr fun j hj => by
  rw [pm_hit]
  unfold cutL
  cases hit ps e s with
  | none => rfl
  | some p => simp [List.getD_eq_getElem?_getD, List.getElem?_take, show j < 4096 by omega]
theorem hit_step {ps : List PadV} {k : Nat} {p : PadV} (hp : ps[k]? = some p) (e s : Nat) : hit (ps.take (k + 1)) e s = match hit (ps.take k) e s with
    | some q => some q
    | none => if p.e = e ∧ p.s = s then some p else none := by
  unfold hit
  rw [List.take_add_one, hp, List.find?_append]
  cases List.find? (fun p => p.e == e && p.s == s) (ps.take k) with
  | some q => rfl
  | none =>
    by_cases h : p.e = e ∧ p.s = s
    · simp [h]
    · have hb : (p.e == e && p.s == s) = false := by
        simp only [Bool.and_eq_false_iff, beq_eq_false_iff_ne]
        omega
      rw [if_neg h]
      simp only [Option.toList, Option.none_or, List.find?_cons_of_neg (p := fun p : PadV => p.e == e && p.s == s) (a := p) (l := []) (by simp [hb])]
      rfl
/-- A table as it grows. -/
def TBl (B : Nat) (w : World) (gm n : Nat) (ps : List PadV) : Prop :=
  ∃ f, MapAt w gm n f ∧ ∀ e s, e < 4294967296 → s < 4294967296 → (f e s).isSome = (hit ps e s).isSome ∧ Told B w ((f e s).getD nob) (cutL ps e s)
theorem TBl.below {B : Nat} {w w' : World} {gm n : Nat} {ps : List PadV} (h : TBl B w gm n ps) (hb : Below w.heap.size w w') : TBl B w' gm n ps := by
  obtain ⟨f, h1, h2⟩ := h
  exact ⟨f, h1.below hb, fun e s he hs => ⟨(h2 e s he hs).1, (h2 e s he hs).2.below hb⟩⟩
theorem TBl.mono {B : Nat} {w : World} {gm n n' : Nat} {ps : List PadV} (h : TBl B w gm n ps) (hn : n ≤ n' := by omega) : TBl B w gm n' ps := by
  obtain ⟨f, h1, h2⟩ := h
  exact ⟨f, h1.mono hn, h2⟩
theorem TBl.start {B : Nat} {w : World} {gm : Nat} (h : MapAt w gm 0 fun _ _ => none) : TBl B w gm 0 [] :=
  ⟨_, h, fun e s _ _ => ⟨rfl, Told.nob B w⟩⟩
theorem TBl.skip {B : Nat} {w : World} {gm n k : Nat} {ps : List PadV} {p : PadV} (h : TBl B w gm n (ps.take k)) (hp : ps[k]? = some p) (hh : (hit (ps.take k) p.e p.s).isSome = true) : TBl B w gm n (ps.take (k + 1)) := by
  obtain ⟨f, h1, h2⟩ := h
  refine ⟨f, h1, fun e s he hs => ?_⟩
  have e1 : hit (ps.take (k + 1)) e s = hit (ps.take k) e s := by
    rw [hit_step hp]
    cases hq : hit (ps.take k) e s with
    | some q => rfl
    | none =>
      have : ¬ (p.e = e ∧ p.s = s) := by
        rintro ⟨rfl, rfl⟩
        rw [hq] at hh
        cases hh
      simp [this]
  have e2 : cutL (ps.take (k + 1)) e s = cutL (ps.take k) e s := by unfold cutL; rw [e1]
  rw [e1, e2]
  exact h2 e s he hs
theorem MapAt.block {w : World} {gm n : Nat} {f : Nat → Nat → Option Value} (h : MapAt w gm n f) {g o : Nat} {v : Value} (hc : w.cell? ⟨g, o, none⟩ = some v) : g ≠ gm := by
  rintro rfl
  obtain ⟨D, ⟨es, clock, hb, _⟩, _⟩ := h
  simp [World.cell?, hb] at hc
theorem Told.turned {B : Nat} {w w' : World} {gm n : Nat} {f : Nat → Nat → Option Value} {v : Value} {l : List UInt8} (h : Told B w v l) (hm : MapAt w gm n f) (hg : w.grownBy w' (some gm)) : Told B w' v l := by
  obtain ⟨A, c, rfl, hA, hq⟩ := h
  refine ⟨A, c, rfl, ?_, hq⟩
  by_cases hl : l = []
  · exact .inl hl
  · have hpos : 0 < l.length := List.length_pos_iff.2 hl
    obtain ⟨g, o, rfl, _, hc⟩ := hA.some_ hpos
    have hne := hm.block (hc 0 _ (List.getElem?_eq_getElem hpos))
    exact hA.grown hg (fun g' o' e => by injection e with e; injection e with e1 e2; subst e1; intro e3; injection e3 with e3; exact hne e3)
theorem TBl.add {B : Nat} {w : World} {gm n k : Nat} {ps : List PadV} {p : PadV} {v : Value} (h : TBl B w gm n (ps.take k)) (hp : ps[k]? = some p) (hh : (hit (ps.take k) p.e p.s).isSome = false) (hv : Told B w v (p.l.take 4096))
    (he : p.e < 4294967296) (hs : p.s < 4294967296) (hn : n < maxLen) :
    ∃ w', (Instr.mapUpdate 70 (.map (some gm)) (.agg #[.int .u32 (p.e : Int), .int .u32 (p.s : Int)]) v).run Tryd.prog w = .ok () w' ∧ TBl B w' gm (n + 1) (ps.take (k + 1)) ∧ w.grownBy w' (some gm) := by
  obtain ⟨f, h1, h2⟩ := h
  obtain ⟨w', hrun, hm, hg⟩ := h1.put he hs hn v
  refine ⟨w', hrun, ⟨_, hm, fun e s he' hs' => ?_⟩, hg⟩
  unfold cutL
  rw [hit_step hp]
  by_cases hes : p.e = e ∧ p.s = s
  · obtain ⟨rfl, rfl⟩ := hes
    cases hq : hit (ps.take k) p.e p.s with
    | some q => rw [hq] at hh; cases hh
    | none =>
      simp [one]
      exact hv.turned h1 hg
  · have e1 : one f p.e p.s v e s = f e s := by unfold one; rw [if_neg (by omega)]
    rw [e1]
    have h3 := h2 e s he' hs'
    unfold cutL at h3
    cases hq : hit (ps.take k) e s with
    | some q =>
      rw [hq] at h3
      exact ⟨h3.1, h3.2.turned h1 hg⟩
    | none =>
      rw [hq] at h3
      simp only [if_neg hes]
      exact ⟨h3.1, h3.2.turned h1 hg⟩
theorem built_nonce' (e s : Nat) : Tryd.prog.built 72 [(0, .int .u32 (e : Int)), (1, .int .u32 (s : Int))] = some [Value.int .u32 (e : Int), .int .u32 (s : Int)].toArray := built_nonce e s
theorem pad_one (e s : Nat) (A : Option Addr) (n c : Nat) : ∀ v ∈ [Value.int .u32 (e : Int), .int .u32 (s : Int), .slice A n c], v.oneCell' = true := by
  intro v hv
  simp at hv
  rcases hv with rfl | rfl | rfl <;> rfl
theorem nonce_one (e s : Nat) : ∀ v ∈ [Value.int .u32 (e : Int), .int .u32 (s : Int)], v.oneCell' = true := by
  intro v hv
  simp at hv
  rcases hv with rfl | rfl <;> rfl
theorem built_veil (fn : Fn) (a b : Array Value) : Tryd.prog.built 75 [(0, .func fn a b)] = some [Value.func fn a b].toArray := by kernel_rfl
theorem step_tail {P : Program} {w : World} {ops : Array Oper} {o : Oper} {a : Act} {K : Act → World → Prop} {Q : Exit → Act → World → Prop} {E : Prop} (hgd : o.guard = none) (s x : Operand) (t : TypeId)
    (ho : o.op = .call { callee := .builtin .append, args := #[s, x], argTypes := #[t, t] })
    (e : TypeId) (i : TypeInfo) (U : U8 P t e i) (base : Nat) (v : Value) (n : Nat) (xs : List Value) (hs : a.eval s = v) (hown : w.ownsRow base e 1 v n xs)
    (A : Option Addr) (m c : Nat) (l : List UInt8) (hx : a.eval x = .slice A m c) (hm : m = l.length) (hA : Hol w A l) (hb : n + m ≤ 140737488355328) (hbase : base ≤ w.heap.size)
    (h : ∀ v' w', w'.ownsRow base e 1 v' (n + m) (xs ++ bc l) → w.grownBy w' v.ownBlock → (v'.ownBlock = v.ownBlock ∨ v'.ownBlock = some w.heap.size) → K (a.put o.dst v') w') :
    if Region.wanted o (yielded ops a.tmps) = true then Oper.wp P o a w K Q else E := by
  have hw : Region.wanted o (yielded ops a.tmps) = true := by simp [Region.wanted, hgd]
  rw [if_pos hw]
  obtain ⟨v', w', hr, h2, h3, h4⟩ := run_app (P := P) w t o.type e i U base v n xs hown A m c l hm hA (.inr trivial) hb hbase
  unfold Oper.wp execOp
  simp only [ho, resolve, invoke, builtin, Sem.run_bind, Sem.run_pure, Result.andThen_ok, List.map_toArray, List.map_cons, List.map_nil, hs, hx, hr]
  exact h v' w' h2 h3 h4
/-- A veil of a table. -/
def IdealAt (B : Nat) (w : World) (g : Nat) (L : Nat → Nat → List UInt8) : Prop :=
  B ≤ g ∧ ∃ gv, w.cell? ⟨g, 0, none⟩ = some (.func (.func 36) #[] #[.pointer (some ⟨gv, 0, none⟩)]) ∧ TabAt B w gv L
theorem IdealAt.kept {B : Nat} {w w' : World} {g : Nat} {L : Nat → Nat → List UInt8} (h : IdealAt B w g L) (hb : Kept B w w') : IdealAt B w' g L := by
  obtain ⟨q, gv, h1, h2⟩ := h
  exact ⟨q, gv, hb.cell q h1, h2.kept hb⟩

set_option maxRecDepth 20000 in
set_option maxHeartbeats 4000000 in
theorem ideal_any (A : Option Addr) (c : Nat) (ps : List PadV) (hps : ps.length ≤ 1099511627776) (w : World) (hP : PadsAt w A ps) (hO : PadsOk ps) :
    Calls Tryd.prog 17 #[.slice A ps.length c] w fun x w' => ∃ g, x = .returned (.pointer (some ⟨g, 0, none⟩)) ∧ w.heap.size ≤ g ∧ IdealAt w.heap.size w' g (cutL ps) ∧ Below w.heap.size w w' := by
  obtain ⟨i, U⟩ := u8_tab
  have hmm := @run_makeMap Tryd.prog
  have hmf : ∀ (fn : Fn) (first cap : Array Value) (w : World), (Instr.makeFunc fn first cap).run Tryd.prog w = .ok (.func fn first cap) w := fun _ _ _ _ => rfl
  have hz38 := Lib.hid (p := ∀ w : World, (zeroValue 41).run Tryd.prog w = .ok (.agg [Value.int .u32 0, .int .u32 0, .slice none 0 0].toArray) w) fun w => by kernel_rfl
  have hz67 := Lib.hid (p := ∀ w : World, (zeroValue 72).run Tryd.prog w = .ok (.agg [Value.int .u32 0, .int .u32 0].toArray) w) fun w => by kernel_rfl
  have i38 := Lib.hid (p := (Tryd.prog.info? 41).map (·.size) = some 3) (by kernel_rfl)
  have i67 := Lib.hid (p := (Tryd.prog.info? 72).map (·.size) = some 2) (by kernel_rfl)
  have HP := Lib.hid hP
  have HO := Lib.hid hO
  have HPS := Lib.hid hps
  clear hP hO hps
  go_enter Tryd.func17, Tryd.ntmps17
  go_wp2
  go_loopw [13] (fun x wr => ∃ k : Nat, k ≤ ps.length ∧ x = .int .i64 k ∧ wr.cell? ⟨w.heap.size + 1, 0, none⟩ = some (.map (some w.heap.size)) ∧ Hid (TBl w.heap.size wr w.heap.size k (ps.take k)) ∧ Below w.heap.size w wr) (fun x _ => ps.length - (intOf x).toNat)
  case atStart =>
    refine ⟨0, by omega, rfl, ?_, ?_, ?_⟩
    · simp
    · rw [List.take_zero]
      exact Lib.hid ((TBl.start (MapAt.made w)).below ((Below.refl _ _).alloc (Nat.le_refl _) _))
    · exact ((Below.refl _ _).alloc (Nat.le_refl _) _).alloc (by simp) _
  case round =>
    obtain ⟨k, hk, rfl, cM, hT, hB⟩ := hrel
    have HB := Lib.hid hB
    have hgv : w.heap.size + 1 < wr.heap.size := World.block_lt_of_cell? wr _ cM
    by_cases hlt : k < ps.length
    · obtain ⟨p, hp⟩ : ∃ p, ps[k]? = some p := ⟨_, List.getElem?_eq_getElem hlt⟩
      obtain ⟨gp, op, rfl, h1, h2, h3, h4, h5⟩ := (HP.out.below hB) k p hp
      obtain ⟨o1, o2, o3⟩ := HO.out k p hp
      have HPK := Lib.hid hp
      have H4 := Lib.hid h4
      have O1 := Lib.hid o1
      have O2 := Lib.hid o2
      have O3 := Lib.hid o3
      have hki : (k : Int) < (ps.length : Int) := by omega
      have hkw : IntKind.i64.wrap ((k : Int) + 1) = (k : Int) + 1 := by rw [IntKind.wrap_i64]; have := HPS.out; omega
      have HR := Lib.hid (p := wr.rangeAt gp (op + k * 3) [Value.int .u32 (p.e : Int), .int .u32 (p.s : Int), .slice p.A p.l.length p.c]) (by
        intro j v hv
        match j, hv with
        | 0, hv => simp at hv; subst hv; exact h1
        | 1, hv => simp at hv; subst hv; exact h2
        | 2, hv => simp at hv; subst hv; exact h3)
      clear hp h1 h2 h3 h4 h5 o1 o2 o3 hB
      by_cases hf : (hit (ps.take k) p.e p.s).isSome = true
      · have HF := Lib.hid hf
        clear hf
        go_wp2_with (first
          | (refine wpList_load_mid rfl 41 (.tmp 15) rfl gp (op + k * 3) rfl [Value.int .u32 (p.e : Int), .int .u32 (p.s : Int), .slice p.A p.l.length p.c] _ HR.out Tryd.underlying41 rfl i38 ?_)
          | (refine step_alloc rfl 5 rfl 41 rfl _ hz38 ?_; intro g5 w5 hr5 hg5 hb5 hs5)
          | (refine step_store rfl 41 _ _ rfl g5 rfl _ _ [Value.int .u32 (p.e : Int), .int .u32 (p.s : Int), .slice p.A p.l.length p.c] rfl hr5 rfl i38 (pad_one _ _ _ _ _) ?_; intro w6 hr6 hg6 hs6
             have c0 := hr6.cell 0
             have c1 := hr6.cell 1
             have c2 := hr6.cell 2
             simp at c0 c1 c2
             have hB6 : Below wr.heap.size wr w6 := hb5.grown hg6 hb5.size (fun q hq => by injection hq with hq; rw [← hq, hg5.out]; exact Nat.le_refl _)
             have cM7 : (w6.alloc (.cells #[.int .u32 (p.e : Int), .int .u32 (p.s : Int)] 72)).cell? ⟨w.heap.size + 1, 0, none⟩ = some (.map (some w.heap.size)) := ((hB6.alloc hB6.size _).cell (p := ⟨w.heap.size + 1, 0, none⟩) hgv).trans cM
             have hT7 := hT.out.below (hB6.alloc hB6.size (.cells #[.int .u32 (p.e : Int), .int .u32 (p.s : Int)] 72))
             have H7 := Lib.hid hT7
             obtain ⟨f, hM, hF⟩ := hT7
             have hl := hM.look_ok O1.out O2.out
             rw [(hF _ _ O1.out O2.out).1, HF.out] at hl
             obtain ⟨v0, hv0⟩ : ∃ v0, (f p.e p.s).getD nob = v0 := ⟨_, rfl⟩
             rw [hv0] at hl
             replace hl : (Instr.lookup 70 (.map (some w.heap.size)) (.agg #[.int .u32 (p.e : Int), .int .u32 (p.s : Int)]) true).run Tryd.prog _ = _ := hl
             have HB6 := Lib.hid hB6
             clear hM hF hv0 hb5 hg6 hB6)
          | (refine step_build rfl 72 _ rfl [(0, .int .u32 (p.e : Int)), (1, .int .u32 (p.s : Int))] ?hv _ (built_nonce' p.e p.s) ?_; case hv => (simp [Act.eval])))
        go_roundw
        case rel =>
          refine ⟨k + 1, by omega, by go_num, ?_, ?_, ?_⟩
          · exact cM7
          · exact Lib.hid (TBl.skip H7.out HPK.out HF.out).mono
          · exact (HB.out.trans (HB6.out.mono HB.out.size)).alloc (by have := HB.out.size; have := HB6.out.size; omega) _
        case measure => simp [intOf]; omega
      · have HF := Lib.hid (p := (hit (ps.take k) p.e p.s).isSome = false) (by simpa using hf)
        clear hf
        obtain ⟨m, hm⟩ : ∃ m : Nat, (p.l.take 4096).length = m := ⟨_, rfl⟩
        have hml : m = min 4096 p.l.length := by rw [← hm, List.length_take]
        have HM : (if (4096 : Int) < (p.l.length : Int) then (4096 : Int) else (p.l.length : Int)) = (m : Int) := by
          split <;> omega
        have hm0 : (0 : Int) ≤ (m : Int) := by omega
        have hm1 : (m : Int) ≤ (p.c : Int) := by have := O3.out; omega
        have HMM := Lib.hid hm
        have hm2 := Lib.hid (p := m ≤ 4096) (by omega)
        clear hml hm
        go_wp2_with (first
            | (refine wpList_load_mid rfl 41 (.tmp 15) rfl gp (op + k * 3) rfl [Value.int .u32 (p.e : Int), .int .u32 (p.s : Int), .slice p.A p.l.length p.c] _ HR.out Tryd.underlying41 rfl i38 ?_)
            | (refine step_alloc rfl 5 rfl 41 rfl _ hz38 ?_; intro g5 w5 hr5 hg5 hb5 hs5)
            | (refine step_store rfl 41 _ _ rfl g5 rfl _ _ [Value.int .u32 (p.e : Int), .int .u32 (p.s : Int), .slice p.A p.l.length p.c] rfl hr5 rfl i38 (pad_one _ _ _ _ _) ?_; intro w6 hr6 hg6 hs6
               have c0 := hr6.cell 0
               have c1 := hr6.cell 1
               have c2 := hr6.cell 2
               simp at c0 c1 c2
               have hB6 : Below wr.heap.size wr w6 := hb5.grown hg6 hb5.size (fun q hq => by injection hq with hq; rw [← hq, hg5.out]; exact Nat.le_refl _)
               have cM7 : (w6.alloc (.cells #[.int .u32 (p.e : Int), .int .u32 (p.s : Int)] 72)).cell? ⟨w.heap.size + 1, 0, none⟩ = some (.map (some w.heap.size)) := ((hB6.alloc hB6.size _).cell (p := ⟨w.heap.size + 1, 0, none⟩) hgv).trans cM
               have hT7 := hT.out.below (hB6.alloc hB6.size (.cells #[.int .u32 (p.e : Int), .int .u32 (p.s : Int)] 72))
               have H7 := Lib.hid hT7
               obtain ⟨f, hM, hF⟩ := hT7
               have hl := hM.look_ok O1.out O2.out
               rw [(hF _ _ O1.out O2.out).1, HF.out] at hl
               obtain ⟨v0, hv0⟩ : ∃ v0, (f p.e p.s).getD nob = v0 := ⟨_, rfl⟩
               rw [hv0] at hl
               replace hl : (Instr.lookup 70 (.map (some w.heap.size)) (.agg #[.int .u32 (p.e : Int), .int .u32 (p.s : Int)]) true).run Tryd.prog _ = _ := hl
               have HB6 := Lib.hid hB6
               clear hM hF hv0 hb5 hg6 hB6)
            | (refine step_build rfl 72 _ rfl [(0, .int .u32 (p.e : Int)), (1, .int .u32 (p.s : Int))] ?hv _ (built_nonce' p.e p.s) ?_; case hv => (simp [Act.eval])))
        have d0 : (w6.alloc (.cells #[.int .u32 (p.e : Int), .int .u32 (p.s : Int)] 72)).cell? ⟨w6.heap.size, 0, none⟩ = some (.int .u32 (p.e : Int)) := by simp
        have d1 : (w6.alloc (.cells #[.int .u32 (p.e : Int), .int .u32 (p.s : Int)] 72)).cell? ⟨w6.heap.size, 1, none⟩ = some (.int .u32 (p.s : Int)) := by simp
        have d2 : (w6.alloc (.cells #[.int .u32 (p.e : Int), .int .u32 (p.s : Int)] 72)).cell? ⟨g5, 2, none⟩ = some (.slice p.A p.l.length p.c) := by rw [World.cell?_alloc_past _ _ _ (World.block_lt_of_cell? _ _ c2)]; exact c2
        have HB7 := Lib.hid (HB6.out.alloc HB6.out.size (.cells #[.int .u32 (p.e : Int), .int .u32 (p.s : Int)] 72))
        have hzz : w.heap.size ≤ (w6.alloc (.cells #[.int .u32 (p.e : Int), .int .u32 (p.s : Int)] 72)).heap.size := by have := HB.out.size; have := HB7.out.size; omega
        have HZ := Lib.hid hzz
        have HB6z := Lib.hid (p := wr.heap.size < w6.heap.size) (by have := hr6.lt; have := hg5.out; omega)
        clear hzz HB6 hr6 hs6 c0 c1 c2 hs5 hr5 hl
        generalize (w6.alloc (.cells #[.int .u32 (p.e : Int), .int .u32 (p.s : Int)] 72)) = w7 at H7 cM7 d0 d1 d2 HB7 HZ ⊢
        have hg6z : w.heap.size < w6.heap.size := by have := HB.out.size; have := HB6z.out; omega
        have hg5z : w.heap.size < g5 := by have := HB.out.size; have := hg5.out; have := hgv; omega
        generalize w6.heap.size = g6 at d0 d1 hg6z ⊢
        have hA7 : Hol w7.drew p.A (p.l.take 4096) := (H4.out.below HB7.out).take_ _
        have HA7 := Lib.hid hA7
        clear hA7
        go_region_held3 (fun w' => w'.cell? ⟨w.heap.size + 1, 0, none⟩ = some (.map (some w.heap.size)) ∧ w'.cell? ⟨g6, 0, none⟩ = some (.int .u32 (p.e : Int)) ∧ w'.cell? ⟨g6, 1, none⟩ = some (.int .u32 (p.s : Int)) ∧ w'.cell? ⟨g5, 2, none⟩ = some (.slice p.A p.l.length p.c))
          (first | (exact ⟨cM9, d09, d19, d29⟩) | (exact ⟨cM8, d08, d18, d28⟩) | go_keep)
          ((refine step_tail rfl _ _ 29 rfl 5 i U w.heap.size (.slice none 0 0) 0 [] rfl (World.ownsRow_nil _ _ _ _) p.A m p.c (p.l.take 4096) rfl HMM.out.symm HA7.out (by have := hm2.out; omega) HZ.out ?_
            intro v2 w2 hown2 hg2 hat2
            have cM8 := hg2.cell cM7 (by simp [Value.ownBlock])
            have d08 := hg2.cell d0 (by simp [Value.ownBlock])
            have d18 := hg2.cell d1 (by simp [Value.ownBlock])
            have d28 := hg2.cell d2 (by simp [Value.ownBlock])
            have hb2 : Below w7.heap.size w7 w2 := (Below.refl _ _).drew.grown hg2 (Nat.le_refl _) (fun q hq => by cases hq)
            have htold : Told w.heap.size w2 v2 (p.l.take 4096) := by
              rw [List.nil_append] at hown2
              obtain ⟨_, A2, c2, hv2, _, _, hA2⟩ := own_form hown2
              exact ⟨A2, c2, hv2, hA2, fun _ g o e => (hown2.lt g (by rw [hv2, e]; rfl)).1⟩
            obtain ⟨w3, hrun, hT3, hg3⟩ := TBl.add (H7.out.below hb2) HPK.out HF.out htold O1.out O2.out (by have := HPS.out; unfold maxLen; omega)
            have cM9 := hg3.cell cM8 (by simp)
            have d09 := hg3.cell d08 (by simp; omega)
            have d19 := hg3.cell d18 (by simp; omega)
            have d29 := hg3.cell d28 (by simp; omega)
            have HB2 := Lib.hid hb2
            have HT3 := Lib.hid hT3
            clear hb2 htold hT3 hat2 hown2))
        all_goals
          go_wp2
          go_roundw
          case rel => exact ⟨k + 1, by omega, by go_num, hg3.cell cM8 (by simp), HT3, ((HB.out.trans (HB7.out.mono HB.out.size)).trans (HB2.out.mono HZ.out)).grown hg3 (Nat.le_trans HZ.out HB2.out.size) (fun q hq => by injection hq with hq; omega)⟩
          case measure => simp [intOf]; omega
    · obtain rfl : k = ps.length := by omega
      rw [List.take_length] at hT
      go_wp2_with (first
        | (refine step_build rfl 76 _ rfl [(0, _)] ?hv _ (built_veil _ _ _) ?_; case hv => (simp [Act.eval])))
      go_ret
      refine ⟨wr.heap.size, rfl, HB.out.size, ⟨HB.out.size, w.heap.size + 1, by simp, ?_⟩, HB.out.alloc HB.out.size _⟩
      obtain ⟨f, hM, hF⟩ := hT.out.below ((Below.refl _ _).alloc (Nat.le_refl _) (.cells #[Value.func (Fn.func 36) #[] #[Value.pointer (some { block := w.heap.size + 1, off := 0 })]] 76))
      exact ⟨w.heap.size, _, f, Nat.le_succ _, Nat.le_refl _, ((Below.refl wr.heap.size wr).alloc (Nat.le_refl _) _).cell (p := ⟨w.heap.size + 1, 0, none⟩) hgv |>.trans cM, hM, fun e s he hs => (hF e s he hs).2⟩
end Go.Proofs.YtibnmhaipogleaaDoor
