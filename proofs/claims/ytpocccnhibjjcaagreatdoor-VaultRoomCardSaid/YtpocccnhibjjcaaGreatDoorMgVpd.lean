/- The law's pads: a table of the call's own. Conditions: bytes lie there. -/
import Derived.Test.YtpocccnhibjjcaaGreatDoorMgVe
import Derived.Test.YtpocccnhibjjcaaGreatDoorMgTab
import Derived.Test.YtpocccnhibjjcaaGreatDoorMgVw
import Derived.Lib.SliceRun
set_option linter.unusedVariables false
set_option maxRecDepth 20000
namespace Go.Proofs.YtpocccnhibjjcaaGreatDoor
open Go.RowKit

namespace V4
def pcP (q : PadV) : List Value := [.int .u32 (q.e : Int), .int .u32 (q.s : Int), .slice q.A q.l.length q.c]
def pcsP (qs : List PadV) : List Value := qs.flatMap pcP
theorem pcsP_get {qs : List PadV} {j : Nat} {q : PadV} (h : qs[j]? = some q) (i : Nat) (hi : i < 3) : (pcsP qs)[j * 3 + i]? = (pcP q)[i]? := flat_get (f := pcP) (k := 3) (fun _ => rfl) h i hi
theorem pcP_one (q : PadV) : ∀ u ∈ pcP q, u.oneCell' = true := pad_one _ _ _ _ _
theorem rec_pad : Rec Tryz.prog 113 143 3 := rec_of (z := .agg #[.int .u32 0, .int .u32 0, .slice none 0 0]) (n := 32) Tryz.underlying113 (by kernel_rfl) (by decide) rfl (by decide)
def Mine (b : Nat) (w : World) (q : PadV) : Prop := w.ownsRow b 5 1 (.slice q.A q.l.length q.c) q.l.length (bc q.l)
structure Pds (b : Nat) (w : World) (v : Value) (qs : List PadV) : Prop where
  row : w.ownsRow b 143 3 v qs.length (pcsP qs)
  mine : ∀ (j : Nat) (q : PadV), qs[j]? = some q → Mine b w q
  ok : ∀ (j : Nat) (q : PadV), qs[j]? = some q → q.e < 100 ∧ q.s < 100 ∧ q.l.length ≤ 400
theorem Pds.start (b : Nat) (w : World) : Pds b w (.slice none 0 0) [] := ⟨World.ownsRow_nil _ _ _ _, fun j q h => by simp at h, fun j q h => by simp at h⟩
theorem Pds.kept {b : Nat} {w w' : World} {v : Value} {qs : List PadV} (h : Pds b w v qs) (hb : Below w.heap.size w w') : Pds b w' v qs :=
  ⟨own_kept h.row hb, fun j q hq => own_kept (h.mine j q hq) hb, h.ok⟩
theorem own_apart {w : World} {b b' : Nat} {e e' : TypeId} {s s' n n' : Nat} {v v' : Value} {xs xs' : List Value} (h : w.ownsRow b e s v n xs) (h' : w.ownsRow b' e' s' v' n' xs') (hne : e ≠ e') : v.ownBlock = none ∨ v.ownBlock ≠ v'.ownBlock := by
  rcases h.2 with ⟨rfl, _⟩ | ⟨g, cap, cur, rfl, _, hg, _⟩
  · exact .inl rfl
  · refine .inr fun he => ?_
    rcases h'.2 with ⟨rfl, _⟩ | ⟨g', cap', cur', rfl, _, hg', _⟩
    · simp [Value.ownBlock] at he
    · simp [Value.ownBlock] at he
      subst he
      rw [hg] at hg'
      injection hg' with hg'
      injection hg' with _ ht
      exact hne ht
theorem own_lower {w : World} {base base' size n : Nat} {e : TypeId} {v : Value} {xs : List Value} (h : w.ownsRow base e size v n xs) (hb : base' ≤ base) : w.ownsRow base' e size v n xs := by
  refine ⟨h.1, ?_⟩
  rcases h.2 with h0 | ⟨g, cap, cur, h1, h2, h3⟩
  · exact .inl h0
  · exact .inr ⟨g, cap, cur, h1, Nat.le_trans hb h2, h3⟩
theorem Pds.more {b bq : Nat} {w2 w3 : World} {v0 v3 : Value} {qs : List PadV} (p : PadV) (h : Pds b w2 v0 qs)
    (hm : w2.ownsRow bq 5 1 (.slice p.A p.l.length p.c) p.l.length (bc p.l)) (hbq : b ≤ bq) (o : Obj) (hg : (w2.alloc o).grownBy w3 v0.ownBlock)
    (hr : w3.ownsRow b 143 3 v3 (qs.length + 1) (pcsP qs ++ pcP p)) (hp : p.e < 100 ∧ p.s < 100 ∧ p.l.length ≤ 400) : Pds b w3 v3 (qs ++ [p]) := by
  have hte : 5 ≠ 143 := by decide
  have hj : ∀ (j : Nat) (q : PadV), (qs ++ [p])[j]? = some q → qs[j]? = some q ∨ q = p := fun j q hq => by
    by_cases hj : j < qs.length
    · rw [List.getElem?_append_left hj] at hq
      exact .inl hq
    · rw [List.getElem?_append_right (by omega)] at hq
      have h2 := List.mem_of_getElem? hq
      exact .inr (by simpa using h2)
  refine ⟨?_, fun j q hq => ?_, fun j q hq => ?_⟩
  · have e : pcsP (qs ++ [p]) = pcsP qs ++ pcP p := by simp [pcsP]
    rw [e, List.length_append]
    exact hr
  · rcases hj j q hq with hq | rfl
    · have h1 := h.mine j q hq
      exact (h1.alloc o).kept hg (own_apart (h1.alloc o) (h.row.alloc o) hte)
    · have h1 : Mine b w2 q := own_lower hm hbq
      exact (h1.alloc o).kept hg (own_apart (h1.alloc o) (h.row.alloc o) hte)
  · rcases hj j q hq with hq | rfl
    · exact h.ok j q hq
    · exact hp
theorem own_cap {w : World} {base n cap : Nat} {e : TypeId} {A : Option Addr} {xs : List Value} (h : w.ownsRow base e 1 (.slice A n cap) n xs) : n ≤ cap := by
  rcases h.2 with ⟨e0, rfl⟩ | ⟨g, cap', cur, e0, _, _, hc, _⟩
  · omega
  · simp only [Value.slice.injEq] at e0
    omega
theorem Pds.pads {b : Nat} {w : World} {A : Option Addr} {c n : Nat} {qs : List PadV} (h : Pds b w (.slice A n c) qs) : PadsAt w A qs ∧ PadsOk qs := by
  refine ⟨fun j q hq => ?_, fun j q hq => ?_⟩
  · have hj := (List.getElem?_eq_some_iff.1 hq).1
    rcases h.row.2 with ⟨_, h0⟩ | ⟨g, cap, cur, e0, _, hg, _⟩
    · omega
    · simp only [Value.slice.injEq] at e0
      obtain ⟨rfl, _, _⟩ := e0
      have hc : ∀ i, i < 3 → ∀ u, (pcP q)[i]? = some u → w.cell? ⟨g, 0 + (j * 3 + i), none⟩ = some u := fun i hi u hu => by
        have := h.row.cells (g := g) rfl (j * 3 + i) u (by rw [pcsP_get hq i hi]; exact hu)
        rw [Addr.add_lit] at this
        exact this
      refine ⟨g, 0, rfl, ?_, ?_, ?_, Hol.own (h.mine j q hq), Nat.le_trans (h.ok j q hq).2.2 (by omega)⟩
      · exact hc 0 (by omega) _ rfl
      · exact hc 1 (by omega) _ rfl
      · exact hc 2 (by omega) _ rfl
  · have := h.ok j q hq
    exact ⟨by omega, by omega, own_cap (h.mine j q hq)⟩
theorem own_two (w : World) (k j : Nat) (hk : k < 256) (hj : j < 256) : (w.alloc (.cells #[.int .u8 (k : Int), .int .u8 (j : Int)] 5)).ownsRow w.heap.size 5 1 (.slice (some ⟨w.heap.size, 0, none⟩) 2 2) 2 (bc [UInt8.ofNat k, UInt8.ofNat j]) := by
  refine ⟨rfl, .inr ⟨w.heap.size, 2, #[.int .u8 (k : Int), .int .u8 (j : Int)], rfl, Nat.le_refl _, ?_, Nat.le_refl _, by decide, rfl, ?_⟩⟩
  · exact (Row.made w 5 [.int .u8 (k : Int), .int .u8 (j : Int)]).heap
  · have e1 : (UInt8.ofNat k).toNat = k := by simp; omega
    have e2 : (UInt8.ofNat j).toNat = j := by simp; omega
    unfold bc
    simp [e1, e2]
theorem bs_two (w : World) (k j : Nat) : (Instr.buildSlice 35 2 #[(0, .int .u8 (k : Int)), (1, .int .u8 (j : Int))]).run Tryz.prog w = .ok (.slice (some ⟨w.heap.size, 0, none⟩) 2 2) (w.alloc (.cells #[.int .u8 (k : Int), .int .u8 (j : Int)] 5)) := by kernel_rfl
theorem wpList_bs2 {ops : Array Oper} {rest : List Oper} {o : Oper} {a : Act} {w : World} {Q : Exit → Act → World → Prop} (hg : o.guard = none) (x y : Operand) (ho : o.op = .buildSlice 35 2 #[(0, x), (1, y)]) (k j : Nat) (hk : k < 256) (hj : j < 256) (hx : a.eval x = .int .u8 (k : Int)) (hy : a.eval y = .int .u8 (j : Int))
    (h : ∀ v w', w'.ownsRow w.heap.size 5 1 v 2 (bc [UInt8.ofNat k, UInt8.ofNat j]) → Hid (v.ownBlock = some w.heap.size) → Below w.heap.size w w' → wpList Tryz.prog ops Q rest (a.put o.dst v) w') : wpList Tryz.prog ops Q (o :: rest) a w := by
  refine wpList_plain hg fun K hK => ?_
  unfold Oper.wp execOp
  simp only [ho, Sem.run_bind, List.map_toArray, List.map_cons, List.map_nil, hx, hy, bs_two, Result.andThen_ok]
  exact hK _ _ (h _ _ (own_two w k j hk hj) (show some _ = some _ from rfl) ((Below.refl _ _).alloc (Nat.le_refl _) _))
end V4
open V4
set_option maxHeartbeats 1000000 in
theorem pads_any (A : Option Addr) (c : Nat) (l : List UInt8) (hl : l.length ≤ 300) (w : World) (hA : Hol w A l) : Calls Tryz.prog 60 #[.slice A l.length c] w fun e w' => ∃ A' c' qs, e = .returned (.slice A' (qs : List PadV).length c') ∧ Hid (PadsAt w' A' qs) ∧ Hid (PadsOk qs) ∧ Hid (qs.length ≤ 9) ∧ Hid (Below w.heap.size w w') := by
  obtain ⟨ii, U⟩ := u8_tab
  have HA := Lib.hid hA
  have HL := Lib.hid hl
  clear hA hl
  go_enter Tryz.func60, Tryz.ntmps60
  go_wp2
  go_loopw [3, 4] (fun v x wr => ∃ k : Nat, k ≤ 3 ∧ x = .int .i64 ((k : Int) + 1) ∧ ∃ A m c qs, v = .slice A m c ∧ Hid (m = qs.length ∧ m = 3 * k) ∧ Hid (Pds w.heap.size wr (.slice A m c) qs) ∧ Hid (Below w.heap.size w wr)) (fun _ x _ => 4 - (intOf x).toNat)
  case atStart => exact ⟨0, by omega, rfl, none, 0, 0, [], rfl, Lib.hid ⟨rfl, rfl⟩, Lib.hid (Pds.start _ _), Lib.hid (Below.refl _ _)⟩
  case round =>
    obtain ⟨k, hk, rfl, A1, m1, c1, qs1, rfl, HM1, HO1, HB1⟩ := hrel
    have HK := Lib.hid hk
    by_cases hlt : k < 3
    · have hki : (k : Int) + 1 ≤ 3 := by omega
      go_wp2
      go_loopw [3, 5] (fun v x wr => ∃ j : Nat, j ≤ 3 ∧ x = .int .i64 (j : Int) ∧ ∃ A m c qs, v = .slice A m c ∧ Hid (m = qs.length ∧ m = 3 * k + j) ∧ Hid (Pds w.heap.size wr (.slice A m c) qs) ∧ Hid (Below w.heap.size w wr)) (fun _ x _ => 3 - (intOf x).toNat)
      case atStart => exact ⟨0, by omega, rfl, A1, m1, c1, qs1, rfl, HM1, HO1, HB1⟩
      case round =>
        clear HM1 HO1 HB1
        obtain ⟨j, hj, rfl, A1, m1, c1, qs1, rfl, HM1, HO1, HB1⟩ := hrel
        by_cases hjl : j < 3
        · have e1 : IntKind.u32.wrap ((k : Int) + 1) = ((k + 1 : Nat) : Int) := by rw [IntKind.wrap_u32]; omega
          have e2 : IntKind.u32.wrap (j : Int) = (j : Int) := by rw [IntKind.wrap_u32]; omega
          have e3 : IntKind.u8.wrap ((k : Int) + 1) = ((k + 1 : Nat) : Int) := by rw [IntKind.wrap_u8]; omega
          have e4 : IntKind.u8.wrap (j : Int) = (j : Int) := by rw [IntKind.wrap_u8]; omega
          obtain ⟨lp, hlp, hlb⟩ : ∃ lp : List UInt8, lp.length = 2 + l.length ∧ bc lp = bc [UInt8.ofNat (k + 1), UInt8.ofNat j] ++ bc l := ⟨[UInt8.ofNat (k + 1), UInt8.ofNat j] ++ l, by simp; omega, bc_app _ _⟩
          have HLP := Lib.hid (p := lp.length = 2 + l.length ∧ bc lp = bc [UInt8.ofNat (k + 1), UInt8.ofNat j] ++ bc l) ⟨hlp, hlb⟩
          clear hlp hlb
          have HE4 := Lib.hid (p := k + 1 < 256 ∧ j < 256) (by omega)
          go_wp2_with (first
            | (refine wpList_bs2 rfl (.tmp 20) (.tmp 22) rfl (k + 1) j HE4.out.1 HE4.out.2 rfl rfl ?_
               intro v1 w1 hown1 hv1 hb1
               have HW1 := Lib.hid hown1
               have HV1 := Lib.hid hv1.out
               have HB11 := Lib.hid hb1
               clear hown1 hv1 hb1)
            | (at_builtin; (refine wpList_app _ rfl _ _ _ rfl 5 ii U wr.heap.size v1 2 _ rfl HW1.out A l.length c l rfl rfl (HA.out.below (below_nxt HB11.out HB1.out)) (by have := HL.out; omega) HB11.out.size ?_)
               intro v2 w2 hown2 hg2 hat2
               rw [← HLP.out.1, ← HLP.out.2] at hown2
               obtain ⟨A2, c2, rfl⟩ := own_sl hown2
               have hb2 : Below wr.heap.size wr w2 := HB11.out.grown hg2 HB11.out.size (fun q hq => by have h0 := HV1.out.symm.trans hq; injection h0 with h0; omega)
               have HB2 := Lib.hid hb2
               have HW2 := Lib.hid hown2
               have HO2 := Lib.hid (HO1.out.kept hb2)
               have HOR := Lib.hid (p := ∀ o, (w2.alloc o).ownsRow w.heap.size 143 3 (.slice A1 m1 c1) m1 (pcsP qs1)) (fun o => by have z := HO2.out.row.alloc o; rw [← HM1.out.1] at z; exact z)
               clear hown2 hg2 hat2 hb2)
            | (at_builtin; (refine wp_join rfl _ _ rfl rec_pad w.heap.size (.slice A1 m1 c1) m1 (pcsP qs1) rfl (HOR.out _) (some ⟨w2.heap.size, 0, none⟩) 1 1 (pcP ⟨k + 1, j, A2, c2, lp⟩) rfl rfl (made_src w2 _ (pcP ⟨k + 1, j, A2, c2, lp⟩)) (pcP_one _) (by have := HM1.out; omega) (by have := HB1.out.size; have := HB2.out.size; simp; omega) ?_)
               intro v3 w3 hr3 hg3 hat3
               have hO3 := HO2.out.more ⟨k + 1, j, A2, c2, lp⟩ HW2.out HB1.out.size _ hg3 (by have z := hr3; rw [HM1.out.1] at z; exact z) (by have := HLP.out; have := HL.out; have := HE4.out; simp only; omega)
               have hb3 : Below w.heap.size w w3 := ((below_nxt HB2.out HB1.out).alloc (below_nxt HB2.out HB1.out).size _).grown hg3 ((below_nxt HB2.out HB1.out).alloc (below_nxt HB2.out HB1.out).size _).size (fun q hq => (HO2.out.row.lt q hq).1)
               have HO3 := Lib.hid hO3
               have HB3 := Lib.hid hb3
               obtain ⟨A3, c3, rfl⟩ := own_sl hr3
               clear hO3 hb3 hr3 hg3 hat3))
          go_roundw
          case rel =>
            refine ⟨j + 1, by omega, by go_num, A3, m1 + 1, c3, qs1 ++ [⟨k + 1, j, A2, c2, lp⟩], rfl, Lib.hid ?_, HO3, HB3⟩
            have := HM1.out
            rw [List.length_append, List.length_singleton]
            omega
          case measure => simp [intOf]; omega
        · obtain rfl : j = 3 := by omega
          go_wp2
          go_roundw
          case rel => exact ⟨k + 1, by omega, by go_num, A1, m1, c1, qs1, rfl, Lib.hid (by have := HM1.out; omega), HO1, HB1⟩
          case measure => simp [intOf]; omega
    · obtain rfl : k = 3 := by omega
      go_wp2
      go_ret
      obtain ⟨rfl, hm⟩ := HM1.out
      exact ⟨A1, c1, qs1, rfl, Lib.hid HO1.out.pads.1, Lib.hid HO1.out.pads.2, Lib.hid (by omega), HB1⟩
end Go.Proofs.YtpocccnhibjjcaaGreatDoor
/- The law's Start: a new disk, a veil of a table, an anchor, a vault. Conditions: the tables lie there. -/
set_option linter.unusedVariables false
set_option maxRecDepth 20000
namespace Go.Proofs.YtpocccnhibjjcaaGreatDoor
open Go.RowKit

theorem plcs_pw {n : Nat} (h1 : 1 ≤ n) (h3 : n ≤ 3) : 2 * (plcs n).length = 2 * (P7.pw n + P7.nd n) ∧ P7.pw n ≤ 64 ∧ P7.nd n ≤ 21 := by
  match n, h1, h3 with
  | 1, _, _ => decide
  | 2, _, _ => decide
  | 3, _, _ => decide
theorem blocks_any (n : Nat) (h1 : 1 ≤ n) (h3 : n ≤ 3) (w : World) : Calls Tryz.prog 12 #[.int .i64 (n : Int)] w fun e w' => e = .returned (.int .i64 ((2 * (plcs n).length : Nat) : Int)) ∧ Below w.heap.size w w' := by
  have HS := Lib.hid (fun w => P7.rslots_any (n : Int) w)
  have HA := Lib.hid (fun w => P7.rall_any (n : Int) w)
  obtain ⟨s, hs⟩ : ∃ s, P7.sl (n : Int) = s := ⟨_, rfl⟩
  obtain ⟨l, hl⟩ : ∃ l, P7.al (P7.lv (n : Int)) = l := ⟨_, rfl⟩
  rw [hs] at HS
  rw [hl] at HA
  have e : 2 * (plcs n).length = 2 * (s + l.length) ∧ s ≤ 64 ∧ l.length ≤ 21 := by
    rw [← hs, ← hl, P7.sl_of h1 (by omega), P7.lv_of h1 (by omega), P7.al_len]
    exact plcs_pw h1 h3
  rw [e.1]
  have hs64 : (s : Int) ≤ 64 := by omega
  have hl21 : (l.length : Int) ≤ 21 := by omega
  have HE := Lib.hid e
  clear e hs hl h1 h3
  go_enter Tryz.func12, Tryz.ntmps12
  go_wp2_with (first
    | (go_at_call 11; refine (HS.out _).mono ?_; rintro e w4 ⟨rfl, rfl⟩)
    | (go_at_call 34; refine (HA.out _).mono ?_; rintro e w5 ⟨A, c, rfl, hO, hb⟩
       have HB := Lib.hid hb
       clear hO hb))
  go_ret
  refine ⟨?_, HB.out⟩
  go_num
theorem tree_new (L : Nat → Nat → List UInt8) (n NB : Nat) (D : Nat → List UInt8) : Tree L n NB D rec0 (fun _ _ _ => rec0) (fun _ => []) := by
  have ht : ∀ l i, tr rec0 (fun _ _ _ => rec0) l i = rec0 := fun l i => by cases l <;> rfl
  refine ⟨fun p hp => .inl ⟨by rw [ht]; rfl, ?_⟩, fun p x hp hx h => ?_, fun l i k _ _ _ => ⟨rec0_ok, rec0_may⟩, rec0_ok⟩
  · have e : nil4 (fun _ => rec0) = true := by decide
    unfold plT
    split
    · rfl
    · rfl
  · rw [ht] at h
    exact (h rfl).elim
theorem an_new {w : World} {ga b : Nat} (hr : Row w ga 94 (anchC 0 (.slice none 0 0))) (hb : b ≤ ga) : AnAt b w ga [ga] 0 rec0 0 := by
  refine ⟨.slice none 0 0, [], hr, World.ownsRow_nil _ _ _ _, fun j => ?_, hb⟩
  simp [Value.ownBlock]
structure StF (w w' : World) (n gH gd ga gv g b : Nat) (FD FA : List Nat) (L : Nat → Nat → List UInt8) (X : VX) : Prop where
  row : Row w' gH 64 (hCs n gd ga gv g (.slice none 0 0))
  vb : VB b w' FD FA g 1 gv L X
  mi : MPh g L n (fun _ => []) 1 50 X
  gd_ : X.c.gd = gd
  ga_ : X.c.ga = ga
  ss_ : X.ss.length = 2 * (plcs n).length
  far : gH ∉ vfoot g X.c FD FA
  lo : ∀ j ∈ vfoot g X.c FD FA, w.heap.size ≤ j
  gh : w.heap.size ≤ gH
  below : Below w.heap.size w w'
  vl : VeilAt w' (gH :: vfoot g X.c FD FA) gv L
  gb : b ≤ gH
def StP (w : World) (n : Nat) (e : Ending) (w' : World) : Prop := ∃ gH gd ga gv g b FD FA L X, e = .returned (.pointer (some ⟨gH, 0, none⟩)) ∧ StF w w' n gH gd ga gv g b FD FA L X
theorem st_mk {w w1 w2 w5 w6 w7 w8 : World} {n NB gd ga gv g gs gn gh gc : Nat} {FD : List Nat} {L : Nat → Nat → List UInt8} {x : BV} {un : Value} (h1 : 1 ≤ n) (h3 : n ≤ 3) (hNB : NB = 2 * (plcs n).length) (hb1 : Below w.heap.size w w1) (hT : Tabs w1 ∧ S8.Tab w1)
    (hD : PD w1.heap.size w2 gd FD (List.replicate NB x) [] (fun _ => []) []) (hb2 : Below w1.heap.size w1 w2) (hb5 : Below w2.heap.size w2 w5) (hV : IdealAt w5.heap.size w6 gv L) (hgv : w5.heap.size ≤ gv) (hb6 : Below w5.heap.size w5 w6) (hr : Row w7 ga 94 (anchC 0 (.slice none 0 0))) (hga : w6.heap.size ≤ ga) (hb7 : Below w6.heap.size w6 w7)
    (hN : NewF w7 w8 g gd ga (some ⟨gv, 0, none⟩) n (List.replicate NB x).length gs gn gh gc un) (Z : Array Value) (hZ : Z = (hCs n gd ga gv g (.slice none 0 0)).toArray) : StP w n (.returned (.pointer (some ⟨w8.heap.size, 0, none⟩))) (w8.alloc (.cells Z 64)) := by
  subst hZ
  have hb26 : Below w2.heap.size w2 w6 := below_nxt hb6 hb5
  have hb27 : Below w2.heap.size w2 w7 := below_nxt hb7 hb26
  have hD7 := hD.kept hb27
  have hlt : ∀ j ∈ FD, w1.heap.size ≤ j ∧ j < w2.heap.size := fun j hj => hD.lt j hj
  have s1 := hb1.size
  have s2 := hb2.size
  have s5 := hb5.size
  have s6 := hb6.size
  have s7 := hb7.size
  have hB7 : BaseT w1.heap.size w7 := ⟨w1, rfl, below_nxt hb27 hb2, hT.1, hT.2⟩
  have hda : ∀ j ∈ FD, j ∉ [ga] := fun j hj hx => by
    rw [List.mem_singleton] at hx
    subst hx
    have := (hlt j hj).2
    omega
  have hVA : VeilAt w7 (FD ++ [ga]) gv L := ⟨w5.heap.size, w6, hV, Kept.of hb7, fun j hj => by
    rcases List.mem_append.1 hj with hj | hj
    · have := (hlt j hj).2
      exact .inl (by omega)
    · rw [List.mem_singleton] at hj
      subst hj
      exact .inr hga⟩
  obtain ⟨hVB, hb8, hF⟩ := vb_new (q := 1) (rs := []) (ts := []) hN hD7 ⟨0, by omega, an_new hr (by omega)⟩ hVA hB7 hda ⟨h1, h3⟩ ⟨by omega, by simp, by simp⟩
  have s8 := hb8.size
  have hbA : Below w8.heap.size w8 (w8.alloc (.cells (hCs n gd ga gv g (.slice none 0 0)).toArray 64)) := (Below.refl _ _).alloc (Nat.le_refl _) _
  have hFlt := fun j hj => (hVB.g_lt j hj).2
  have hNBs : NB ≤ 1024 := by have := plcs_len h3; omega
  refine ⟨w8.heap.size, gd, ga, gv, g, w1.heap.size, FD, [ga], L, _, rfl, ⟨Row.made _ _ _, hVB.below hbA, .inl ⟨fun _ _ _ => rec0, ?_, rfl, rfl, ?_⟩, rfl, rfl, by show (List.replicate NB x).length = _; rw [List.length_replicate, hNB], fun hx => by have := hFlt _ hx; omega, fun j hj => ?_, by omega, below_nxt hbA (below_nxt hb8 (below_nxt hb27 (below_nxt hb2 hb1))), hVB.vl.chg (G := []) (.of hbA) (fun j hj => by cases hj) (fun j hj => by rcases List.mem_cons.1 hj with e | e; exact .inr (by omega); exact .inl e), by omega⟩⟩
  · refine ⟨rfl, h1, h3, rfl, rfl, rfl, ⟨tree_new _ _ _ _, fun q hq => by cases hq⟩, rfl, rfl, rfl, ?_, ?_, fun q hq => (by cases hq), fun _ => .inl rfl, fun _ => rfl, fun _ => rfl⟩
    · show (List.replicate NB x).length ≤ _
      rw [List.length_replicate]
      exact hNBs
    · show _ ≤ (List.replicate NB x).length
      rw [List.length_replicate, hNB]
      exact Nat.le_refl _
  · rw [allN_len, P7.al_len]
    have := (plcs_pw h1 h3).2.2
    omega
  · rcases hF j hj with h | h | h
    · have := (hlt j h).1
      omega
    · rw [List.mem_singleton] at h
      omega
    · omega
set_option maxHeartbeats 1000000 in
theorem start_any (n : Nat) (h1 : 1 ≤ n) (h3 : n ≤ 3) (A : Option Addr) (c : Nat) (l : List UInt8) (hl : l.length ≤ 300) (w : World) (hA : Hol w A l) (hT : Tabs w ∧ S8.Tab w) : Calls Tryz.prog 28 #[.int .i64 (n : Int), .slice A l.length c] w (StP w n) := by
  have HA := Lib.hid hA
  have HL := Lib.hid hl
  have HT := Lib.hid hT
  have HN := Lib.hid (p := 1 ≤ n ∧ n ≤ 3) ⟨h1, h3⟩
  obtain ⟨NB, hNB⟩ : ∃ NB, NB = 2 * (plcs n).length := ⟨_, rfl⟩
  have HB0 := Lib.hid (blocks_any n h1 h3)
  rw [← hNB] at HB0
  have hen : enB (n : Int) (NB : Int) = true ∧ 1 ≤ NB ∧ NB ≤ 1024 := by
    have e := plcs_pw h1 h3
    have ep := P7.pw_pos n
    refine ⟨?_, by omega, by omega⟩
    unfold enB
    rw [P7.sl_of h1 (by omega), P7.lv_of h1 (by omega)]
    simp
    omega
  have HE := Lib.hid hen
  have HNB := Lib.hid hNB
  clear hA hl hT h1 h3 hNB hen
  go_enter Tryz.func28, Tryz.ntmps28
  go_wp2_with (first
    | (go_at_call 12; refine (HB0.out _).mono ?_; rintro e w1 ⟨rfl, hb1⟩
       have HB1 := Lib.hid hb1
       clear hb1)
    | (go_at_call 8; refine (new_in NB HE.out.2.1 HE.out.2.2 _).mono ?_; rintro e w2 ⟨gd, FD, x, rfl, hx, hD, hb2⟩
       have HD := Lib.hid hD
       have HB2 := Lib.hid hb2
       clear hx hD hb2)
    | (go_at_call 60; refine (pads_any A c l HL.out _ (HA.out.below (below_nxt HB2.out HB1.out))).mono ?_; rintro e w5 ⟨A', c', qs, rfl, HPA, HPO, HPL, HB5⟩)
    | (go_at_call 59; refine (ideal_any A' c' qs (by have := HPL.out; omega) _ HPA.out HPO.out).mono ?_; rintro e w6 ⟨gv, rfl, hgv, hid, hb6⟩
       have HV := Lib.hid hid
       have HGV := Lib.hid hgv
       have HB6 := Lib.hid hb6
       clear hgv hid hb6)
    | (go_at_call 10; refine (newanchor _).mono ?_; rintro e w7 ⟨ga, rfl, hra, hga, hb7⟩
       have HRA := Lib.hid hra
       have HGA := Lib.hid hga
       have HB7 := Lib.hid hb7
       clear hra hga hb7)
    | (go_at_call 9
       refine (vnew (ss := List.replicate NB x) (ga := ga) (some ⟨gv, 0, none⟩) (HD.out.kept (below_nxt HB7.out (below_nxt HB6.out HB5.out))) n HN.out.1 (by have := HN.out; omega) (by rw [List.length_replicate]; exact HE.out.1) (by rw [List.length_replicate]; exact HE.out.2.1) (by rw [List.length_replicate]; exact HE.out.2.2) (HT.out.2.below (below_nxt HB7.out (below_nxt HB6.out (below_nxt HB5.out (below_nxt HB2.out HB1.out)))) HT.out.2.lt)).mono ?_
       rintro e w8 ⟨g, gs, gn, gh, gc, un, rfl, hN⟩
       have HNF := Lib.hid hN
       clear hN))
  go_ret
  exact st_mk HN.out.1 HN.out.2 HNB.out HB1.out ⟨HT.out.1.below HB1.out, HT.out.2.below HB1.out HT.out.2.lt⟩ HD.out HB2.out HB5.out HV.out HGV.out HB6.out HRA.out HGA.out HB7.out HNF.out _ rfl
end Go.Proofs.YtpocccnhibjjcaaGreatDoor
/- Uses told, with bytes of their own. Conditions: the vault lies there. -/
set_option linter.unusedVariables false
namespace Go.Proofs.YtpocccnhibjjcaaGreatDoor
open Go.RowKit

set_option maxRecDepth 20000 in
theorem cloneU (A : Option Addr) (c : Nat) (ts : List (Nat × Nat × BV)) (b : Nat) (w : World) (h : w.ownsRow b 111 3 (.slice A ts.length c) ts.length (ts.flatMap uc)) (hl : ts.length ≤ 1000000) :
    Calls Tryz.prog 58 #[.slice A ts.length c] w fun e w' => ∃ B d, e = .returned (.slice B ts.length d) ∧ Hid (w'.ownsRow w.heap.size 111 3 (.slice B ts.length d) ts.length (ts.flatMap uc)) ∧ Hid (Below w.heap.size w w') := by
  have H := Lib.hid h
  have HL := Lib.hid hl
  have hnil : ∀ (w : World) (a : Option Addr) (n c : Nat), (binOp .eql 46 (.slice a n c) (.slice none 0 0)).run Tryz.prog w = .ok (.bool a.isNone) w := fun w a n c => Lib.run_eql_slice_nil w _ _ a n c 0 0 Tryz.underlying46
  rcases h.2 with ⟨e0, h0⟩ | ⟨g, cap, cur, e0, _⟩
  · simp only [Value.slice.injEq] at e0
    obtain ⟨rfl, h1, rfl⟩ := e0
    obtain rfl : ts = [] := List.eq_nil_of_length_eq_zero h1
    clear h hl h0
    go_enter Tryz.func58, Tryz.ntmps58
    go_wp2
    go_ret
    exact ⟨none, 0, rfl, Lib.hid (World.ownsRow_nil _ _ _ _), Lib.hid (Below.refl _ _)⟩
  · simp only [Value.slice.injEq] at e0
    obtain ⟨rfl, _, rfl⟩ := e0
    clear h hl
    go_enter Tryz.func58, Tryz.ntmps58
    go_wp2_with (first
      | (at_builtin; refine wp_join rfl _ _ rfl rec_use w.heap.size (.slice (some ⟨w.heap.size, 0, none⟩) 0 0) 0 [] rfl (void_own w _ 3 _ (Nat.le_refl _)) _ ts.length c (ts.flatMap uc) rfl (flat_len uc_len _) (own_src (own_kept H.out ((Below.refl _ _).alloc (Nat.le_refl _) _))) (flat_one uc_one _) (by have := HL.out; omega) (by simp) ?_
         intro v2' w2 hown2 hg2 hat2
         rw [List.nil_append, Nat.zero_add] at hown2
         obtain ⟨Ax, cx, rfl⟩ := own_sl hown2
         have hb2 : Below w.heap.size w w2 := ((Below.refl _ _).alloc (Nat.le_refl _) _).grown hg2 (by simp) (fun q hq => by have h0 : some w.heap.size = some q := hq; injection h0 with h0; omega)
         have HX2 := Lib.hid hown2
         have HB2 := Lib.hid hb2
         clear hown2 hg2 hat2 hb2))
    go_ret
    exact ⟨Ax, cx, rfl, HX2, HB2⟩
theorem ucs_set : ∀ (L : List (Nat × Nat × BV)) (k : Nat) (t : Nat × Nat × BV) (y : BV), L[k]? = some t → (L.flatMap uc).set (k * 3 + 2) (bvv y) = (L.set k (t.1, t.2.1, y)).flatMap uc
  | [], k, t, y, h => by simp at h
  | p :: r, 0, t, y, h => by
    simp at h
    subst h
    simp [uc]
  | p :: r, k + 1, t, y, h => by
    have h1 := ucs_set r k t y (by simpa using h)
    rw [List.set_cons_succ, List.flatMap_cons, List.flatMap_cons, ← h1]
    show ((uc p) ++ r.flatMap uc).set ((k + 1) * 3 + 2) _ = _
    rw [List.set_append_right _ _ (by rw [uc_len]; omega), uc_len]
    congr 2
    omega
def UsesP (w : World) (n : Nat) (e : Ending) (w' : World) : Prop := ∃ B d xs, e = .returned (.slice B n d) ∧ Hid (w'.ownsRow w.heap.size 111 3 (.slice B n d) n xs) ∧ Hid (∀ v ∈ xs, v.oneCell' = true) ∧ Hid (Below w.heap.size w w')
set_option maxRecDepth 20000 in
set_option maxHeartbeats 1000000 in
theorem vuses {b : Nat} {w : World} {FD FA : List Nat} {g q gv : Nat} {L0 : Nat → Nat → List UInt8} {X : VX} (h0 : VB b w FD FA g q gv L0 X) :
    Calls Tryz.prog 26 #[.pointer (some ⟨g, 0, none⟩)] w (UsesP w X.ul.length) := by
  obtain ⟨ts, hts⟩ : ∃ ts, X.ul = ts := ⟨_, rfl⟩
  have hus := h0.us
  obtain ⟨A, c, hA⟩ := own_sl hus
  have cU := h0.row.us
  rw [hA] at hus cU
  rw [hts] at hus cU ⊢
  have H := Lib.hid hus
  have HM := Lib.hid (p := ∀ t ∈ ts, Own8 b w t.2.2 ∧ t.2.2.l.length ≤ 140737488355328) (fun t ht => by
    have h1 := h0.ub t (by rw [hts]; exact ht)
    exact ⟨h1, by have h2 := h0.ul t (by rw [hts]; exact ht); omega⟩)
  have HL := Lib.hid (p := ts.length ≤ 1000000) (by have := h0.lim; rw [hts] at this; omega)
  have HB := Lib.hid h0.base.le
  clear h0 hus hA hts
  go_enter Tryz.func26, Tryz.ntmps26
  go_wp2_with (go_at_call 58; refine (cloneU A c ts b w H.out HL.out).mono ?_; rintro e1 w1 ⟨B, d, rfl, HO1, HB1⟩)
  go_loopw [14] (fun x wr => ∃ (k : Nat) (L : List (Nat × Nat × BV)), k ≤ ts.length ∧ x = .int .i64 (k : Int) ∧ Hid (L.length = ts.length ∧ True) ∧ Hid (∀ j, k ≤ j → L[j]? = ts[j]?) ∧ Hid (wr.ownsRow w.heap.size 111 3 (.slice B ts.length d) ts.length (L.flatMap uc)) ∧
    Hid (∀ t ∈ L, Own8 b wr t.2.2 ∧ t.2.2.l.length ≤ 140737488355328) ∧ Hid (Below w.heap.size w wr)) (fun x _ => ts.length - (intOf x).toNat)
  case atStart => exact ⟨0, ts, by omega, rfl, Lib.hid ⟨rfl, trivial⟩, Lib.hid (fun _ _ => rfl), HO1, Lib.hid (fun t ht => ⟨(HM.out t ht).1.below HB1.out, (HM.out t ht).2⟩), HB1⟩
  case round =>
    obtain ⟨k, L, hk, rfl, HLL, HLK, HO, HLM, HBR⟩ := hrel
    have hkw : IntKind.i64.wrap ((k : Int) + 1) = (k : Int) + 1 := by rw [IntKind.wrap_i64]; have := HL.out; omega
    by_cases hlt : k < ts.length
    · have h1i : (k : Int) < (ts.length : Int) := by omega
      have hk0 : (0 : Int) ≤ (k : Int) := by omega
      obtain ⟨t, ht⟩ : ∃ t, L[k]? = some t := ⟨_, List.getElem?_eq_getElem (by have := HLL.out.1; omega)⟩
      obtain ⟨g, d', e2, _, _, hc⟩ := own_rec uc_len HO.out ht (by omega)
      simp only [Value.slice.injEq] at e2
      obtain ⟨rfl, _, rfl⟩ := e2
      have d2 := hc 2 _ rfl
      unfold bvv at d2
      have HT := Lib.hid ht
      have HTM := Lib.hid (HLM.out t (List.mem_of_getElem? ht))
      have HLT := Lib.hid hlt
      clear hc ht hlt hk
      go_wp2_with (go_at_call 50; refine (clone8 t.2.2 b wr HTM.out.1 HTM.out.2).mono ?_; rintro e5 w5 ⟨y, rfl, HY, HYO, HB5⟩
                   have HO5 := Lib.hid (own_kept HO.out HB5.out)
                   obtain ⟨g', d', e2, _, _, hc⟩ := own_rec uc_len HO5.out HT.out (by omega)
                   simp only [Value.slice.injEq, Option.some.injEq, Addr.mk.injEq] at e2
                   obtain ⟨⟨rfl, _⟩, _, rfl⟩ := e2
                   have d25 := hc 2 _ rfl
                   unfold bvv at d25
                   have f25 := HO5.out.frozenAt (k * 3 + 2)
                   have hs := (HO5.out.stored (k * 3 + 2) (bvv y)).1
                   rw [ucs_set L k t y HT.out] at hs
                   have hgs := grown_set w5 ⟨g, k * 3 + 2, none⟩ (bvv y)
                   have hN : NotT w5 (some g) 5 := NotT.own HO5.out (by decide)
                   have HS := Lib.hid hs
                   have HSM := Lib.hid (p := ∀ q ∈ L.set k (t.1, t.2.1, y), Own8 b (w5.setCell ⟨g, k * 3 + 2, none⟩ (bvv y)) q.2.2 ∧ q.2.2.l.length ≤ 140737488355328) (fun q hq => by
                     rcases List.mem_or_eq_of_mem_set hq with hq | rfl
                     · exact ⟨((HLM.out q hq).1.below HB5.out).turn hgs hN, (HLM.out q hq).2⟩
                     · exact ⟨(HYO.out.lower (Nat.le_trans HB.out HBR.out.size)).turn hgs hN, by rw [HY.out]; exact HTM.out.2⟩)
                   have HSB := Lib.hid (p := Below w.heap.size w (w5.setCell ⟨g, k * 3 + 2, none⟩ (bvv y))) ((below_nxt HB5.out HBR.out).setCell (p := ⟨g, k * 3 + 2, none⟩) ((HO.out.lt g rfl).1) (bvv y))
                   unfold bvv at HS HSM HSB
                   clear hc hs hgs hN)
      go_roundw
      case rel => exact ⟨k + 1, L.set k (t.1, t.2.1, y), HLT.out, by go_num, Lib.hid ⟨by rw [List.length_set]; exact HLL.out.1, trivial⟩, Lib.hid (fun j hj => by rw [List.getElem?_set_ne (by omega)]; exact HLK.out j (by omega)), HS, HSM, HSB⟩
      case measure => have := HLT.out; simp [intOf]; omega
    · have h1i : ¬ (k : Int) < (ts.length : Int) := by omega
      clear hlt hk
      go_wp2
      go_ret
      exact ⟨B, d, _, rfl, HO, Lib.hid (flat_one uc_one _), HBR⟩
end Go.Proofs.YtpocccnhibjjcaaGreatDoor
