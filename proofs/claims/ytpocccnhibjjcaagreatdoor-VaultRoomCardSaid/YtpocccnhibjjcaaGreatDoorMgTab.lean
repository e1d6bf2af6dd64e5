/- A veil's table: what its closure tells of a nonce. Conditions: the table lies there; the length is at most 4096. -/
import Derived.Test.YtpocccnhibjjcaaGreatDoorMgMaps
import Derived.Test.YtpocccnhibjjcaaGreatDoorMgApp
import Derived.BigQuiet
import Derived.StillTailTactics
import Derived.Deep.RegionHeld3
import Derived.Laws.Small
import Derived.Deep.QuietTactic
set_option linter.unusedVariables false
namespace Go.Proofs.YtpocccnhibjjcaaGreatDoor
open Go.RowKit

theorem info8t : (Tryz.prog.info? 5).map (·.size) = some 1 := by kernel_rfl
theorem built_nonce (e s : Nat) : Tryz.prog.built 145 [(0, .int .u32 (e : Int)), (1, .int .u32 (s : Int))] = some #[.int .u32 (e : Int), .int .u32 (s : Int)] := by
  kernel_rfl
def Kept (B : Nat) (w w' : World) : Prop := w.heap.size ≤ w'.heap.size ∧ ∀ j, B ≤ j → j < w.heap.size → w'.heap[j]? = w.heap[j]?
theorem Kept.of {B : Nat} {w w' : World} (h : Below w.heap.size w w') : Kept B w w' := ⟨h.size, fun j _ hj => h.block j hj⟩
theorem Kept.trans {B : Nat} {a b c : World} (h : Kept B a b) (k : Kept B b c) : Kept B a c :=
  ⟨Nat.le_trans h.1 k.1, fun j hB hj => (k.2 j hB (Nat.lt_of_lt_of_le hj h.1)).trans (h.2 j hB hj)⟩
theorem Kept.cell {B : Nat} {w w' : World} (h : Kept B w w') {g o : Nat} (hB : B ≤ g) {v : Value} (hc : w.cell? ⟨g, o, none⟩ = some v) : w'.cell? ⟨g, o, none⟩ = some v :=
  (World.cell?_of_block (h.2 g hB (World.block_lt_of_cell? w _ hc))).trans hc
def Told (B : Nat) (w : World) (v : Value) (l : List UInt8) : Prop := ∃ A c, v = .slice A l.length c ∧ Hol w A l ∧ (l ≠ [] → ∀ g o, A = some ⟨g, o, none⟩ → B ≤ g)
theorem Told.nob (B : Nat) (w : World) : Told B w nob [] := ⟨none, 0, rfl, .inl rfl, fun h => absurd rfl h⟩
theorem Told.kept {B : Nat} {w w' : World} {v : Value} {l : List UInt8} (h : Told B w v l) (hb : Kept B w w') : Told B w' v l := by
  obtain ⟨A, c, h1, h2, h3⟩ := h
  refine ⟨A, c, h1, ?_, h3⟩
  rcases h2 with rfl | ⟨g, o, rfl, hc⟩
  · exact .inl rfl
  · by_cases hl : l = []
    · exact .inl hl
    · exact .inr ⟨g, o, rfl, fun j x hx => hb.cell (h3 hl g o rfl) (hc j x hx)⟩
theorem Told.below {B : Nat} {w w' : World} {v : Value} {l : List UInt8} (h : Told B w v l) (hb : Below w.heap.size w w') : Told B w' v l := h.kept (.of hb)
theorem MapAt.kept {B : Nat} {w w' : World} {b n : Nat} {f : Nat → Nat → Option Value} (h : MapAt w b n f) (hB : B ≤ b) (hk : Kept B w w') : MapAt w' b n f := by
  have hlt := h.lt
  obtain ⟨D, ⟨es, clock, hb, r⟩, k⟩ := h
  exact ⟨D, ⟨es, clock, (hk.2 b hB hlt).trans hb, r⟩, k⟩
def TabAt (B : Nat) (w : World) (gv : Nat) (L : Nat → Nat → List UInt8) : Prop :=
  ∃ gm n f, B ≤ gv ∧ B ≤ gm ∧ w.cell? ⟨gv, 0, none⟩ = some (.map (some gm)) ∧ MapAt w gm n f ∧ ∀ e s, e < 4294967296 → s < 4294967296 → Told B w ((f e s).getD nob) (L e s)
theorem TabAt.kept {B : Nat} {w w' : World} {gv : Nat} {L : Nat → Nat → List UInt8} (h : TabAt B w gv L) (hb : Kept B w w') : TabAt B w' gv L := by
  obtain ⟨gm, n, f, q1, q2, h1, h2, h3⟩ := h
  exact ⟨gm, n, f, q1, q2, hb.cell q1 h1, h2.kept q2 hb, fun e s he hs => (h3 e s he hs).kept hb⟩
theorem TabAt.below {B : Nat} {w w' : World} {gv : Nat} {L : Nat → Nat → List UInt8} (h : TabAt B w gv L) (hb : Below w.heap.size w w') : TabAt B w' gv L := h.kept (.of hb)

theorem tab_any (B gv : Nat) (L : Nat → Nat → List UInt8) (e s n : Nat) (he : e < 4294967296) (hs : s < 4294967296) (hn : n ≤ 4096) (w : World) (hT : TabAt B w gv L) :
    Calls Tryz.prog 90 #[.int .u32 e, .int .u32 s, .int .i64 n, .pointer (some ⟨gv, 0, none⟩)] w fun x w' => ∃ g, x = .returned (.slice (some ⟨g, 0, none⟩) n n) ∧ Row w' g 5 (brr n fun j => (L e s).getD j 0) ∧ w.heap.size ≤ g ∧ Below w.heap.size w w' := by
  obtain ⟨i, U⟩ := u8_tab
  have HT := Lib.hid hT
  have HN := Lib.hid hn
  have HE := Lib.hid he
  have HS := Lib.hid hs
  clear hT hn he hs
  go_enter Tryz.func90, Tryz.ntmps90
  go_wp2_with (first
    | (refine step_make rfl _ _ 35 5 i U rfl n rfl rfl (by have := HN.out; omega) ?_; intro g w1 hr1 hg1 hb1 hs1
       have hT1 := HT.out.below hb1
       obtain ⟨gm, m, f, _, _, cM, hM, hL⟩ := hT1
       obtain ⟨A, c, hv, hA, _⟩ := hL e s HE.out HS.out
       have hlook : (Instr.lookup 141 (.map (some gm)) (.agg #[.int .u32 (e : Int), .int .u32 (s : Int)]) false).run Tryz.prog w1 = .ok (.slice A (L e s).length c) w1 := by rw [← hv]; exact hM.look HE.out HS.out
       clear hv hL hM)
    | (refine step_build rfl 145 _ rfl [(0, .int .u32 (e : Int)), (1, .int .u32 (s : Int))] ?hv _ (built_nonce e s) ?_; case hv => (simp [Act.eval, Act.put]))
    | (refine wp_copy rfl _ _ 35 35 rfl 5 U.ht info8t g 0 n n n 5 (fun _ => 0) rfl hr1 A _ c (L e s) rfl rfl hA (by rw [Nat.zero_add]; exact Nat.min_le_right _ _) ?_; intro w2 k hr2 hu2))
  go_ret
  refine ⟨g, rfl, ?_, by rw [hg1.out]; exact Nat.le_refl _, ?_⟩
  · have : brr n (ov 0 ((L e s).take n) fun _ => 0) = brr n fun j => (L e s).getD j 0 := brr_congr fun j hj => by
      by_cases h : j < (L e s).length
      · rw [ov_in (by omega) (by rw [List.length_take]; omega)]
        simp [List.getElem?_take, hj]
      · rw [ov_out (by rw [List.length_take]; omega), List.getD_eq_getElem?_getD, List.getElem?_eq_none (by omega)]
        rfl
    rw [← this]
    exact hr2
  · exact hb1.grown hu2.out.by_ hb1.size (fun k hk => by injection hk with hk; rw [← hk, hg1.out]; exact Nat.le_refl _)
end Go.Proofs.YtpocccnhibjjcaaGreatDoor
/- A veil made of a table: what the call leaves. Conditions: the table lies there, its epochs and sequences are numbers of 32 bits, its pads' bytes are within their rows. -/
set_option linter.unusedVariables false
namespace Go.Proofs.YtpocccnhibjjcaaGreatDoor
open Go.RowKit

def PadsOk (ps : List PadV) : Prop := ∀ (j : Nat) (p : PadV), ps[j]? = some p → p.e < 4294967296 ∧ p.s < 4294967296 ∧ p.l.length ≤ p.c
def hit (ps : List PadV) (e s : Nat) : Option PadV := ps.find? fun p => p.e == e && p.s == s
def cutL (ps : List PadV) (e s : Nat) : List UInt8 := match hit ps e s with
  | some p => p.l.take 4096
  | none => []
theorem hit_step {ps : List PadV} {k : Nat} {p : PadV} (hp : ps[k]? = some p) (e s : Nat) : hit (ps.take (k + 1)) e s = match hit (ps.take k) e s with
    | some q => some q
    | none => if p.e = e ∧ p.s = s then some p else none := by
  unfold hit
  rw [List.take_add_one, hp, List.find?_append]
  cases List.find? (fun p => p.e == e && p.s == s) (ps.take k) with
  | some q => rfl
  | none =>
    by_cases h : p.e = e ∧ p.s = s
    · simp [h]
    · have hb : (p.e == e && p.s == s) = false := by
        simp only [Bool.and_eq_false_iff, beq_eq_false_iff_ne]
        omega
      rw [if_neg h]
      simp only [Option.toList, Option.none_or, List.find?_cons_of_neg (p := fun p : PadV => p.e == e && p.s == s) (a := p) (l := []) (by simp [hb])]
      rfl
def TBl (B : Nat) (w : World) (gm n : Nat) (ps : List PadV) : Prop :=
  ∃ f, MapAt w gm n f ∧ ∀ e s, e < 4294967296 → s < 4294967296 → (f e s).isSome = (hit ps e s).isSome ∧ Told B w ((f e s).getD nob) (cutL ps e s)
theorem TBl.below {B : Nat} {w w' : World} {gm n : Nat} {ps : List PadV} (h : TBl B w gm n ps) (hb : Below w.heap.size w w') : TBl B w' gm n ps := by
  obtain ⟨f, h1, h2⟩ := h
  exact ⟨f, h1.below hb, fun e s he hs => ⟨(h2 e s he hs).1, (h2 e s he hs).2.below hb⟩⟩
theorem TBl.mono {B : Nat} {w : World} {gm n n' : Nat} {ps : List PadV} (h : TBl B w gm n ps) (hn : n ≤ n' := by omega) : TBl B w gm n' ps := by
  obtain ⟨f, h1, h2⟩ := h
  exact ⟨f, h1.mono hn, h2⟩
theorem TBl.start {B : Nat} {w : World} {gm : Nat} (h : MapAt w gm 0 fun _ _ => none) : TBl B w gm 0 [] :=
  ⟨_, h, fun e s _ _ => ⟨rfl, Told.nob B w⟩⟩
theorem TBl.skip {B : Nat} {w : World} {gm n k : Nat} {ps : List PadV} {p : PadV} (h : TBl B w gm n (ps.take k)) (hp : ps[k]? = some p) (hh : (hit (ps.take k) p.e p.s).isSome = true) : TBl B w gm n (ps.take (k + 1)) := by
  obtain ⟨f, h1, h2⟩ := h
  refine ⟨f, h1, fun e s he hs => ?_⟩
  have e1 : hit (ps.take (k + 1)) e s = hit (ps.take k) e s := by
    rw [hit_step hp]
    cases hq : hit (ps.take k) e s with
    | some q => rfl
    | none =>
      have : ¬ (p.e = e ∧ p.s = s) := by
        rintro ⟨rfl, rfl⟩
        rw [hq] at hh
        cases hh
      simp [this]
  have e2 : cutL (ps.take (k + 1)) e s = cutL (ps.take k) e s := by unfold cutL; rw [e1]
  rw [e1, e2]
  exact h2 e s he hs
theorem MapAt.block {w : World} {gm n : Nat} {f : Nat → Nat → Option Value} (h : MapAt w gm n f) {g o : Nat} {v : Value} (hc : w.cell? ⟨g, o, none⟩ = some v) : g ≠ gm := by
  rintro rfl
  obtain ⟨D, ⟨es, clock, hb, _⟩, _⟩ := h
  simp [World.cell?, hb] at hc
theorem Told.turned {B : Nat} {w w' : World} {gm n : Nat} {f : Nat → Nat → Option Value} {v : Value} {l : List UInt8} (h : Told B w v l) (hm : MapAt w gm n f) (hg : w.grownBy w' (some gm)) : Told B w' v l := by
  obtain ⟨A, c, rfl, hA, hq⟩ := h
  refine ⟨A, c, rfl, ?_, hq⟩
  by_cases hl : l = []
  · exact .inl hl
  · have hpos : 0 < l.length := List.length_pos_iff.2 hl
    obtain ⟨g, o, rfl, _, hc⟩ := hA.some_ hpos
    have hne := hm.block (hc 0 _ (List.getElem?_eq_getElem hpos))
    exact hA.grown hg (fun g' o' e => by injection e with e; injection e with e1 e2; subst e1; intro e3; injection e3 with e3; exact hne e3)
theorem TBl.add {B : Nat} {w : World} {gm n k : Nat} {ps : List PadV} {p : PadV} {v : Value} (h : TBl B w gm n (ps.take k)) (hp : ps[k]? = some p) (hh : (hit (ps.take k) p.e p.s).isSome = false) (hv : Told B w v (p.l.take 4096))
    (he : p.e < 4294967296) (hs : p.s < 4294967296) (hn : n < maxLen) :
    ∃ w', (Instr.mapUpdate 141 (.map (some gm)) (.agg #[.int .u32 (p.e : Int), .int .u32 (p.s : Int)]) v).run Tryz.prog w = .ok () w' ∧ TBl B w' gm (n + 1) (ps.take (k + 1)) ∧ w.grownBy w' (some gm) := by
  obtain ⟨f, h1, h2⟩ := h
  obtain ⟨w', hrun, hm, hg⟩ := h1.put he hs hn v
  refine ⟨w', hrun, ⟨_, hm, fun e s he' hs' => ?_⟩, hg⟩
  unfold cutL
  rw [hit_step hp]
  by_cases hes : p.e = e ∧ p.s = s
  · obtain ⟨rfl, rfl⟩ := hes
    cases hq : hit (ps.take k) p.e p.s with
    | some q => rw [hq] at hh; cases hh
    | none =>
      simp [one]
      exact hv.turned h1 hg
  · have e1 : one f p.e p.s v e s = f e s := by unfold one; rw [if_neg (by omega)]
    rw [e1]
    have h3 := h2 e s he' hs'
    unfold cutL at h3
    cases hq : hit (ps.take k) e s with
    | some q =>
      rw [hq] at h3
      exact ⟨h3.1, h3.2.turned h1 hg⟩
    | none =>
      rw [hq] at h3
      simp only [if_neg hes]
      exact ⟨h3.1, h3.2.turned h1 hg⟩
theorem built_nonce' (e s : Nat) : Tryz.prog.built 145 [(0, .int .u32 (e : Int)), (1, .int .u32 (s : Int))] = some [Value.int .u32 (e : Int), .int .u32 (s : Int)].toArray := built_nonce e s
theorem pad_one (e s : Nat) (A : Option Addr) (n c : Nat) : ∀ v ∈ [Value.int .u32 (e : Int), .int .u32 (s : Int), .slice A n c], v.oneCell' = true := by
  intro v hv
  simp at hv
  rcases hv with rfl | rfl | rfl <;> rfl
theorem built_veil (fn : Fn) (a b : Array Value) : Tryz.prog.built 147 [(0, .func fn a b)] = some [Value.func fn a b].toArray := by kernel_rfl
theorem step_tail {P : Program} {w : World} {ops : Array Oper} {o : Oper} {a : Act} {K : Act → World → Prop} {Q : Exit → Act → World → Prop} {E : Prop} (hgd : o.guard = none) (s x : Operand) (t : TypeId)
    (ho : o.op = .call { callee := .builtin .append, args := #[s, x], argTypes := #[t, t] })
    (e : TypeId) (i : TypeInfo) (U : U8 P t e i) (base : Nat) (v : Value) (n : Nat) (xs : List Value) (hs : a.eval s = v) (hown : w.ownsRow base e 1 v n xs)
    (A : Option Addr) (m c : Nat) (l : List UInt8) (hx : a.eval x = .slice A m c) (hm : m = l.length) (hA : Hol w A l) (hb : n + m ≤ 140737488355328) (hbase : base ≤ w.heap.size)
    (h : ∀ v' w', w'.ownsRow base e 1 v' (n + m) (xs ++ bc l) → w.grownBy w' v.ownBlock → (v'.ownBlock = v.ownBlock ∨ v'.ownBlock = some w.heap.size) → K (a.put o.dst v') w') :
    if Region.wanted o (yielded ops a.tmps) = true then Oper.wp P o a w K Q else E := by
  have hw : Region.wanted o (yielded ops a.tmps) = true := by simp [Region.wanted, hgd]
  rw [if_pos hw]
  obtain ⟨v', w', hr, h2, h3, h4⟩ := run_app (P := P) w t o.type e i U base v n xs hown A m c l hm hA (.inr trivial) hb hbase
  unfold Oper.wp execOp
  simp only [ho, resolve, invoke, builtin, Sem.run_bind, Sem.run_pure, Result.andThen_ok, List.map_toArray, List.map_cons, List.map_nil, hs, hx, hr]
  exact h v' w' h2 h3 h4
def IdealAt (B : Nat) (w : World) (g : Nat) (L : Nat → Nat → List UInt8) : Prop :=
  B ≤ g ∧ ∃ gv, w.cell? ⟨g, 0, none⟩ = some (.func (.func 90) #[] #[.pointer (some ⟨gv, 0, none⟩)]) ∧ TabAt B w gv L
theorem IdealAt.kept {B : Nat} {w w' : World} {g : Nat} {L : Nat → Nat → List UInt8} (h : IdealAt B w g L) (hb : Kept B w w') : IdealAt B w' g L := by
  obtain ⟨q, gv, h1, h2⟩ := h
  exact ⟨q, gv, hb.cell q h1, h2.kept hb⟩

set_option maxRecDepth 20000 in
set_option maxHeartbeats 4000000 in
theorem ideal_any (A : Option Addr) (c : Nat) (ps : List PadV) (hps : ps.length ≤ 1099511627776) (w : World) (hP : PadsAt w A ps) (hO : PadsOk ps) :
    Calls Tryz.prog 59 #[.slice A ps.length c] w fun x w' => ∃ g, x = .returned (.pointer (some ⟨g, 0, none⟩)) ∧ w.heap.size ≤ g ∧ IdealAt w.heap.size w' g (cutL ps) ∧ Below w.heap.size w w' := by
  obtain ⟨i, U⟩ := u8_tab
  have hmm := @run_makeMap Tryz.prog
  have hmf : ∀ (fn : Fn) (first cap : Array Value) (w : World), (Instr.makeFunc fn first cap).run Tryz.prog w = .ok (.func fn first cap) w := fun _ _ _ _ => rfl
  have hz38 := Lib.hid (p := ∀ w : World, (zeroValue 143).run Tryz.prog w = .ok (.agg [Value.int .u32 0, .int .u32 0, .slice none 0 0].toArray) w) fun w => by kernel_rfl
  have hz67 := Lib.hid (p := ∀ w : World, (zeroValue 145).run Tryz.prog w = .ok (.agg [Value.int .u32 0, .int .u32 0].toArray) w) fun w => by kernel_rfl
  have i38 := Lib.hid (p := (Tryz.prog.info? 143).map (·.size) = some 3) (by kernel_rfl)
  have i67 := Lib.hid (p := (Tryz.prog.info? 145).map (·.size) = some 2) (by kernel_rfl)
  have HP := Lib.hid hP
  have HO := Lib.hid hO
  have HPS := Lib.hid hps
  clear hP hO hps
  go_enter Tryz.func59, Tryz.ntmps59
  go_wp2
  go_loopw [13] (fun x wr => ∃ k : Nat, k ≤ ps.length ∧ x = .int .i64 k ∧ wr.cell? ⟨w.heap.size + 1, 0, none⟩ = some (.map (some w.heap.size)) ∧ Hid (TBl w.heap.size wr w.heap.size k (ps.take k)) ∧ Below w.heap.size w wr) (fun x _ => ps.length - (intOf x).toNat)
  case atStart =>
    refine ⟨0, by omega, rfl, ?_, ?_, ?_⟩
    · simp
    · rw [List.take_zero]
      exact Lib.hid ((TBl.start (MapAt.made w)).below ((Below.refl _ _).alloc (Nat.le_refl _) _))
    · exact ((Below.refl _ _).alloc (Nat.le_refl _) _).alloc (by simp) _
  case round =>
    obtain ⟨k, hk, rfl, cM, hT, hB⟩ := hrel
    have HB := Lib.hid hB
    have hgv : w.heap.size + 1 < wr.heap.size := World.block_lt_of_cell? wr _ cM
    by_cases hlt : k < ps.length
    · obtain ⟨p, hp⟩ : ∃ p, ps[k]? = some p := ⟨_, List.getElem?_eq_getElem hlt⟩
      obtain ⟨gp, op, rfl, h1, h2, h3, h4, h5⟩ := (HP.out.below hB) k p hp
      obtain ⟨o1, o2, o3⟩ := HO.out k p hp
      have HPK := Lib.hid hp
      have H4 := Lib.hid h4
      have O1 := Lib.hid o1
      have O2 := Lib.hid o2
      have O3 := Lib.hid o3
      have hki : (k : Int) < (ps.length : Int) := by omega
      have hkw : IntKind.i64.wrap ((k : Int) + 1) = (k : Int) + 1 := by rw [IntKind.wrap_i64]; have := HPS.out; omega
      have HR := Lib.hid (p := wr.rangeAt gp (op + k * 3) [Value.int .u32 (p.e : Int), .int .u32 (p.s : Int), .slice p.A p.l.length p.c]) (by
        intro j v hv
        match j, hv with
        | 0, hv => simp at hv; subst hv; exact h1
        | 1, hv => simp at hv; subst hv; exact h2
        | 2, hv => simp at hv; subst hv; exact h3)
      clear hp h1 h2 h3 h4 h5 o1 o2 o3 hB
      by_cases hf : (hit (ps.take k) p.e p.s).isSome = true
      · have HF := Lib.hid hf
        clear hf
        go_wp2_with (first
          | (refine wpList_load_mid rfl 143 (.tmp 15) rfl gp (op + k * 3) rfl [Value.int .u32 (p.e : Int), .int .u32 (p.s : Int), .slice p.A p.l.length p.c] _ HR.out Tryz.underlying143 rfl i38 ?_)
          | (refine step_alloc rfl 5 rfl 143 rfl _ hz38 ?_; intro g5 w5 hr5 hg5 hb5 hs5)
          | (refine step_store rfl 143 _ _ rfl g5 rfl _ _ [Value.int .u32 (p.e : Int), .int .u32 (p.s : Int), .slice p.A p.l.length p.c] rfl hr5 rfl i38 (pad_one _ _ _ _ _) ?_; intro w6 hr6 hg6 hs6
             have c0 := hr6.cell 0
             have c1 := hr6.cell 1
             have c2 := hr6.cell 2
             simp at c0 c1 c2
             have hB6 : Below wr.heap.size wr w6 := hb5.grown hg6 hb5.size (fun q hq => by injection hq with hq; rw [← hq, hg5.out]; exact Nat.le_refl _)
             have cM7 : (w6.alloc (.cells #[.int .u32 (p.e : Int), .int .u32 (p.s : Int)] 145)).cell? ⟨w.heap.size + 1, 0, none⟩ = some (.map (some w.heap.size)) := ((hB6.alloc hB6.size _).cell (p := ⟨w.heap.size + 1, 0, none⟩) hgv).trans cM
             have hT7 := hT.out.below (hB6.alloc hB6.size (.cells #[.int .u32 (p.e : Int), .int .u32 (p.s : Int)] 145))
             have H7 := Lib.hid hT7
             obtain ⟨f, hM, hF⟩ := hT7
             have hl := hM.look_ok O1.out O2.out
             rw [(hF _ _ O1.out O2.out).1, HF.out] at hl
             obtain ⟨v0, hv0⟩ : ∃ v0, (f p.e p.s).getD nob = v0 := ⟨_, rfl⟩
             rw [hv0] at hl
             replace hl : (Instr.lookup 141 (.map (some w.heap.size)) (.agg #[.int .u32 (p.e : Int), .int .u32 (p.s : Int)]) true).run Tryz.prog _ = _ := hl
             have HB6 := Lib.hid hB6
             clear hM hF hv0 hb5 hg6 hB6)
          | (refine step_build rfl 145 _ rfl [(0, .int .u32 (p.e : Int)), (1, .int .u32 (p.s : Int))] ?hv _ (built_nonce' p.e p.s) ?_; case hv => (simp [Act.eval])))
        go_roundw
        case rel =>
          refine ⟨k + 1, by omega, by go_num, ?_, ?_, ?_⟩
          · exact cM7
          · exact Lib.hid (TBl.skip H7.out HPK.out HF.out).mono
          · exact (HB.out.trans (HB6.out.mono HB.out.size)).alloc (by have := HB.out.size; have := HB6.out.size; omega) _
        case measure => simp [intOf]; omega
      · have HF := Lib.hid (p := (hit (ps.take k) p.e p.s).isSome = false) (by simpa using hf)
        clear hf
        obtain ⟨m, hm⟩ : ∃ m : Nat, (p.l.take 4096).length = m := ⟨_, rfl⟩
        have hml : m = min 4096 p.l.length := by rw [← hm, List.length_take]
        have HM : (if (4096 : Int) < (p.l.length : Int) then (4096 : Int) else (p.l.length : Int)) = (m : Int) := by
          split <;> omega
        have hm0 : (0 : Int) ≤ (m : Int) := by omega
        have hm1 : (m : Int) ≤ (p.c : Int) := by have := O3.out; omega
        have HMM := Lib.hid hm
        have hm2 := Lib.hid (p := m ≤ 4096) (by omega)
        clear hml hm
        go_wp2_with (first
            | (refine wpList_load_mid rfl 143 (.tmp 15) rfl gp (op + k * 3) rfl [Value.int .u32 (p.e : Int), .int .u32 (p.s : Int), .slice p.A p.l.length p.c] _ HR.out Tryz.underlying143 rfl i38 ?_)
            | (refine step_alloc rfl 5 rfl 143 rfl _ hz38 ?_; intro g5 w5 hr5 hg5 hb5 hs5)
            | (refine step_store rfl 143 _ _ rfl g5 rfl _ _ [Value.int .u32 (p.e : Int), .int .u32 (p.s : Int), .slice p.A p.l.length p.c] rfl hr5 rfl i38 (pad_one _ _ _ _ _) ?_; intro w6 hr6 hg6 hs6
               have c0 := hr6.cell 0
               have c1 := hr6.cell 1
               have c2 := hr6.cell 2
               simp at c0 c1 c2
               have hB6 : Below wr.heap.size wr w6 := hb5.grown hg6 hb5.size (fun q hq => by injection hq with hq; rw [← hq, hg5.out]; exact Nat.le_refl _)
               have cM7 : (w6.alloc (.cells #[.int .u32 (p.e : Int), .int .u32 (p.s : Int)] 145)).cell? ⟨w.heap.size + 1, 0, none⟩ = some (.map (some w.heap.size)) := ((hB6.alloc hB6.size _).cell (p := ⟨w.heap.size + 1, 0, none⟩) hgv).trans cM
               have hT7 := hT.out.below (hB6.alloc hB6.size (.cells #[.int .u32 (p.e : Int), .int .u32 (p.s : Int)] 145))
               have H7 := Lib.hid hT7
               obtain ⟨f, hM, hF⟩ := hT7
               have hl := hM.look_ok O1.out O2.out
               rw [(hF _ _ O1.out O2.out).1, HF.out] at hl
               obtain ⟨v0, hv0⟩ : ∃ v0, (f p.e p.s).getD nob = v0 := ⟨_, rfl⟩
               rw [hv0] at hl
               replace hl : (Instr.lookup 141 (.map (some w.heap.size)) (.agg #[.int .u32 (p.e : Int), .int .u32 (p.s : Int)]) true).run Tryz.prog _ = _ := hl
               have HB6 := Lib.hid hB6
               clear hM hF hv0 hb5 hg6 hB6)
            | (refine step_build rfl 145 _ rfl [(0, .int .u32 (p.e : Int)), (1, .int .u32 (p.s : Int))] ?hv _ (built_nonce' p.e p.s) ?_; case hv => (simp [Act.eval])))
        have d0 : (w6.alloc (.cells #[.int .u32 (p.e : Int), .int .u32 (p.s : Int)] 145)).cell? ⟨w6.heap.size, 0, none⟩ = some (.int .u32 (p.e : Int)) := by simp
        have d1 : (w6.alloc (.cells #[.int .u32 (p.e : Int), .int .u32 (p.s : Int)] 145)).cell? ⟨w6.heap.size, 1, none⟩ = some (.int .u32 (p.s : Int)) := by simp
        have d2 : (w6.alloc (.cells #[.int .u32 (p.e : Int), .int .u32 (p.s : Int)] 145)).cell? ⟨g5, 2, none⟩ = some (.slice p.A p.l.length p.c) := by rw [World.cell?_alloc_past _ _ _ (World.block_lt_of_cell? _ _ c2)]; exact c2
        have HB7 := Lib.hid (HB6.out.alloc HB6.out.size (.cells #[.int .u32 (p.e : Int), .int .u32 (p.s : Int)] 145))
        have hzz : w.heap.size ≤ (w6.alloc (.cells #[.int .u32 (p.e : Int), .int .u32 (p.s : Int)] 145)).heap.size := by have := HB.out.size; have := HB7.out.size; omega
        have HZ := Lib.hid hzz
        have HB6z := Lib.hid (p := wr.heap.size < w6.heap.size) (by have := hr6.lt; have := hg5.out; omega)
        clear hzz HB6 hr6 hs6 c0 c1 c2 hs5 hr5 hl
        generalize (w6.alloc (.cells #[.int .u32 (p.e : Int), .int .u32 (p.s : Int)] 145)) = w7 at H7 cM7 d0 d1 d2 HB7 HZ ⊢
        have hg6z : w.heap.size < w6.heap.size := by have := HB.out.size; have := HB6z.out; omega
        have hg5z : w.heap.size < g5 := by have := HB.out.size; have := hg5.out; have := hgv; omega
        generalize w6.heap.size = g6 at d0 d1 hg6z ⊢
        have hA7 : Hol w7.drew p.A (p.l.take 4096) := (H4.out.below HB7.out).take_ _
        have HA7 := Lib.hid hA7
        clear hA7
        go_region_held3 (fun w' => w'.cell? ⟨w.heap.size + 1, 0, none⟩ = some (.map (some w.heap.size)) ∧ w'.cell? ⟨g6, 0, none⟩ = some (.int .u32 (p.e : Int)) ∧ w'.cell? ⟨g6, 1, none⟩ = some (.int .u32 (p.s : Int)) ∧ w'.cell? ⟨g5, 2, none⟩ = some (.slice p.A p.l.length p.c))
          (first | (exact ⟨cM9, d09, d19, d29⟩) | (exact ⟨cM8, d08, d18, d28⟩) | go_keep)
          ((refine step_tail rfl _ _ 35 rfl 5 i U w.heap.size (.slice none 0 0) 0 [] rfl (World.ownsRow_nil _ _ _ _) p.A m p.c (p.l.take 4096) rfl HMM.out.symm HA7.out (by have := hm2.out; omega) HZ.out ?_
            intro v2 w2 hown2 hg2 hat2
            have cM8 := hg2.cell cM7 (by simp [Value.ownBlock])
            have d08 := hg2.cell d0 (by simp [Value.ownBlock])
            have d18 := hg2.cell d1 (by simp [Value.ownBlock])
            have d28 := hg2.cell d2 (by simp [Value.ownBlock])
            have hb2 : Below w7.heap.size w7 w2 := (Below.refl _ _).drew.grown hg2 (Nat.le_refl _) (fun q hq => by cases hq)
            have htold : Told w.heap.size w2 v2 (p.l.take 4096) := by
              rw [List.nil_append] at hown2
              obtain ⟨_, A2, c2, hv2, _, _, hA2⟩ := own_form hown2
              exact ⟨A2, c2, hv2, hA2, fun _ g o e => (hown2.lt g (by rw [hv2, e]; rfl)).1⟩
            obtain ⟨w3, hrun, hT3, hg3⟩ := TBl.add (H7.out.below hb2) HPK.out HF.out htold O1.out O2.out (by have := HPS.out; unfold maxLen; omega)
            have cM9 := hg3.cell cM8 (by simp)
            have d09 := hg3.cell d08 (by simp; omega)
            have d19 := hg3.cell d18 (by simp; omega)
            have d29 := hg3.cell d28 (by simp; omega)
            have HB2 := Lib.hid hb2
            have HT3 := Lib.hid hT3
            clear hb2 htold hT3 hat2 hown2))
        all_goals
          go_wp2
          go_roundw
          case rel => exact ⟨k + 1, by omega, by go_num, hg3.cell cM8 (by simp), HT3, ((HB.out.trans (HB7.out.mono HB.out.size)).trans (HB2.out.mono HZ.out)).grown hg3 (Nat.le_trans HZ.out HB2.out.size) (fun q hq => by injection hq with hq; omega)⟩
          case measure => simp [intOf]; omega
    · obtain rfl : k = ps.length := by omega
      rw [List.take_length] at hT
      go_wp2_with (first
        | (refine step_build rfl 148 _ rfl [(0, _)] ?hv _ (built_veil _ _ _) ?_; case hv => (simp [Act.eval])))
      go_ret
      refine ⟨wr.heap.size, rfl, HB.out.size, ⟨HB.out.size, w.heap.size + 1, by simp, ?_⟩, HB.out.alloc HB.out.size _⟩
      obtain ⟨f, hM, hF⟩ := hT.out.below ((Below.refl _ _).alloc (Nat.le_refl _) (.cells #[Value.func (Fn.func 90) #[] #[Value.pointer (some { block := w.heap.size + 1, off := 0 })]] 148))
      exact ⟨w.heap.size, _, f, Nat.le_succ _, Nat.le_refl _, ((Below.refl wr.heap.size wr).alloc (Nat.le_refl _) _).cell (p := ⟨w.heap.size + 1, 0, none⟩) hgv |>.trans cM, hM, fun e s he hs => (hF e s he hs).2⟩
end Go.Proofs.YtpocccnhibjjcaaGreatDoor
/- A veil: what Mask and Hide leave, for every nonce, length and bytes. Conditions: the veil's closure makes masks. -/
set_option linter.unusedVariables false
namespace Go.Proofs.YtpocccnhibjjcaaGreatDoor
open Go.RowKit

def NewRow (w : World) (n : Nat) (f : Nat → UInt8) (x : Ending) (w' : World) : Prop :=
  ∃ g, x = .returned (.slice (some ⟨g, 0, none⟩) n n) ∧ Row w' g 5 (brr n f) ∧ w.heap.size ≤ g ∧ Below w.heap.size w w'
def MaskAt (w : World) (g : Nat) (M : Nat → Nat → Nat → UInt8) : Prop :=
  ∃ id gv, id = 90 ∧ w.cell? ⟨g, 0, none⟩ = some (.func (.func id) #[] #[.pointer (some ⟨gv, 0, none⟩)]) ∧
    ∀ w', Below w.heap.size w w' → ∀ e s n : Nat, e < 4294967296 → s < 4294967296 → n ≤ 4096 → Calls Tryz.prog id #[.int .u32 (e : Int), .int .u32 (s : Int), .int .i64 (n : Int), .pointer (some ⟨gv, 0, none⟩)] w' (NewRow w' n (M e s))
theorem MaskAt.lt {w : World} {g : Nat} {M : Nat → Nat → Nat → UInt8} (h : MaskAt w g M) : g < w.heap.size := by
  obtain ⟨_, _, _, h, _⟩ := h
  exact World.block_lt_of_cell? w _ h
theorem MaskAt.below {w w' : World} {g : Nat} {M : Nat → Nat → Nat → UInt8} (h : MaskAt w g M) (hb : Below w.heap.size w w') : MaskAt w' g M := by
  have hlt := h.lt
  obtain ⟨id, gv, h1, h2, h3⟩ := h
  exact ⟨id, gv, h1, (hb.cell (p := ⟨g, 0, none⟩) hlt).trans h2, fun w2 hb2 => h3 w2 (hb.trans (hb2.mono hb.size))⟩

theorem mask_any (g : Nat) (M : Nat → Nat → Nat → UInt8) (e s n : Nat) (he : e < 4294967296) (hs : s < 4294967296) (hn : n ≤ 4096) (w : World) (hM : MaskAt w g M) :
    Calls Tryz.prog 126 #[.pointer (some ⟨g, 0, none⟩), .int .u32 (e : Int), .int .u32 (s : Int), .int .i64 (n : Int)] w (NewRow w n (M e s)) := by
  have h1 : ¬ (n : Int) < 0 := by omega
  have h2 : ¬ (4096 : Int) < (n : Int) := by omega
  have HN := Lib.hid hn
  have HE := Lib.hid he
  have HS := Lib.hid hs
  obtain ⟨id, gv, hid, hc, hcall⟩ := hM
  have HC := Lib.hid (hcall w (Below.refl _ _) e s n he hs hn)
  clear hn he hs hcall
  subst hid
  go_enter Tryz.func126, Tryz.ntmps126
  go_wp2_with (go_at_call 90; refine HC.out.mono ?_; rintro x w1 ⟨g1, rfl, hr, hg, hb⟩)
  go_ret
  exact ⟨g1, rfl, hr, hg, hb⟩
def hid (f : Nat → UInt8) (l : List UInt8) (j : Nat) : UInt8 := f j ^^^ l.getD j 0
set_option maxHeartbeats 1000000 in
theorem hide_any (g : Nat) (M : Nat → Nat → Nat → UInt8) (A : Option Addr) (c : Nat) (l : List UInt8) (e s : Nat) (he : e < 4294967296) (hs : s < 4294967296) (hl : l.length ≤ 4096) (w : World) (hM : MaskAt w g M) (hA : Hol w A l) :
    Calls Tryz.prog 102 #[.pointer (some ⟨g, 0, none⟩), .int .u32 (e : Int), .int .u32 (s : Int), .slice A l.length c] w (NewRow w l.length (hid (M e s) l)) := by
  have HA := Lib.hid hA
  have HL := Lib.hid hl
  have HE := Lib.hid he
  have HS := Lib.hid hs
  have HM := Lib.hid hM
  clear hA hl he hs hM
  go_enter Tryz.func102, Tryz.ntmps102
  go_wp2_with (go_at_call 126; refine (mask_any g M e s l.length HE.out HS.out HL.out _ HM.out).mono ?_; rintro x w1 ⟨g1, rfl, hr1, hg1, hb1⟩)
  have HB1 := Lib.hid hb1
  have HG1 := Lib.hid hg1
  clear hb1 hg1
  go_loopw [19] (fun x wr => ∃ k : Nat, k ≤ l.length ∧ x = .int .i64 k ∧ Row wr g1 5 (brr l.length (upto k (hid (M e s) l) (M e s))) ∧ Below w.heap.size w wr) (fun x _ => l.length - (intOf x).toNat)
  case atStart => exact ⟨0, by omega, rfl, by rw [upto_zero]; exact hr1, HB1.out⟩
  case round =>
    clear hr1
    obtain ⟨k, hk, rfl, hR, hB⟩ := hrel
    have hkw : IntKind.i64.wrap ((k : Int) + 1) = (k : Int) + 1 := by rw [IntKind.wrap_i64]; have := HL.out; omega
    by_cases hlt : k < l.length
    · obtain ⟨ga, oa, rfl, _, hc2⟩ := (HA.out.below hB).at_ hlt
      obtain ⟨y, hy⟩ : ∃ y, l[k] = y := ⟨_, rfl⟩
      rw [hy] at hc2
      replace hc2 : wr.cell? ⟨ga, oa + k, none⟩ = some (B y) := hc2
      obtain ⟨z, hz⟩ : ∃ z, M e s k = z := ⟨_, rfl⟩
      have HXY : Hid (hid (M e s) l k = z ^^^ y) := Lib.hid (by
        unfold hid
        rw [hz, List.getD_eq_getElem?_getD, List.getElem?_eq_getElem hlt, hy]
        rfl)
      have c1 : wr.cell? ⟨g1, k, none⟩ = some (B z) := by rw [hR.cell, brr_get _ hlt, upto_self, hz]
      have f1 := hR.free k
      have hki : (k : Int) < (l.length : Int) := by omega
      have HR := Lib.hid hR
      have HB := Lib.hid hB
      clear hR hB hy hz
      go_wp2
      go_region
      go_wp2
      go_roundw
      case rel => exact ⟨k + 1, by omega, by go_num, by rw [← upto_step, ← brr_set, HXY.out]; exact (HR.out.put _ _).drew, (HB.out.setCell HG1.out _).drew⟩
      case measure => simp [intOf]; omega
    · obtain rfl : k = l.length := by omega
      rw [upto_all] at hR
      have HR := Lib.hid hR
      have HB := Lib.hid hB
      clear hR hB
      go_wp2
      go_ret
      exact ⟨g1, rfl, HR.out, HG1.out, HB.out⟩
end Go.Proofs.YtpocccnhibjjcaaGreatDoor
/- What a veil of a table is, and tables of one pad. Conditions: those named. -/
set_option linter.unusedVariables false
namespace Go.Proofs.YtpocccnhibjjcaaGreatDoor
open Go.RowKit

def pmask (L : Nat → Nat → List UInt8) (e s j : Nat) : UInt8 := (L e s).getD j 0
theorem IdealAt.mask {B : Nat} {w : World} {g : Nat} {L : Nat → Nat → List UInt8} (h : IdealAt B w g L) : MaskAt w g (pmask L) := by
  obtain ⟨_, gv, h1, h2⟩ := h
  exact ⟨90, gv, rfl, h1, fun w' hb e s n he hs hn => tab_any B gv L e s n he hs hn w' (h2.below hb)⟩
end Go.Proofs.YtpocccnhibjjcaaGreatDoor
/- Bytes xored with others, by the reference: what the call leaves, for all bytes up to 2^40. No other conditions. -/
set_option linter.unusedVariables false
namespace Go.Proofs.YtpocccnhibjjcaaGreatDoor
open Go.RowKit

end Go.Proofs.YtpocccnhibjjcaaGreatDoor
/- The reference's numbers as bytes: what each call leaves. Conditions: those named. -/
set_option linter.unusedVariables false
namespace Go.Proofs.YtpocccnhibjjcaaGreatDoor
open Go.RowKit

end Go.Proofs.YtpocccnhibjjcaaGreatDoor
