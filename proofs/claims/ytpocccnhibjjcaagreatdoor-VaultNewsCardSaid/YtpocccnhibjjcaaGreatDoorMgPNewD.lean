/- The program's new disk: what world.New leaves, for every number of blocks. No conditions. -/
import Derived.Test.YtpocccnhibjjcaaGreatDoorMgPRead
import Derived.Test.YtpocccnhibjjcaaGreatDoorMgCalls
import Derived.Deep.QuietTactic
import Derived.Deep.Onto
set_option linter.unusedVariables false
namespace Go.Proofs.YtpocccnhibjjcaaGreatDoor
open Go.RowKit
theorem built_disk (p : Option Addr) (n c gm : Nat) : Tryz.prog.built 77 [(0, .slice p n c), (2, .map (some gm))] = some #[.slice p n c, .slice none 0 0, .map (some gm), .slice none 0 0] := by
  kernel_rfl
theorem new_out (z : Int) (hz : z < 1 ∨ 1024 < z) (w : World) :
    Calls Tryz.prog 8 #[.int .i64 z] w fun e w' => e = .returned (.tuple #[.pointer none, .int .i64 201]) ∧ w' = w := by
  by_cases h : z < 1
  · clear hz
    go_enter Tryz.func8, Tryz.ntmps8
    go_wp2
    go_ret2
    exact ⟨rfl, rfl⟩
  · have h2 : (1024 : Int) < z := by omega
    clear hz
    go_enter Tryz.func8, Tryz.ntmps8
    go_wp2
    go_ret2
    exact ⟨rfl, rfl⟩
def NewD (w : World) (m : Nat) (e : Ending) (w' : World) : Prop :=
  ∃ g F x, e = .returned (.tuple #[.pointer (some ⟨g, 0, none⟩), .int .i64 0]) ∧ x.l = pad [] ∧ PD w.heap.size w' g F (List.replicate m x) [] (fun _ => []) [] ∧ Below w.heap.size w w'
theorem flat_rep (m : Nat) (x : BV) : (List.replicate m x).flatMap sc = List.replicate m (bvv x) := by
  rw [flat_sc, List.map_replicate]
set_option maxHeartbeats 2000000 in
theorem new_in (m : Nat) (h1 : 1 ≤ m) (h2 : m ≤ 1024) (w : World) :
    Calls Tryz.prog 8 #[.int .i64 (m : Int)] w (NewD w m) := by
  have i1 : ¬ (m : Int) < 1 := by omega
  have i2 : ¬ (1024 : Int) < (m : Int) := by omega
  have H1 := Lib.hid h1
  have H2 := Lib.hid h2
  have hmm := @run_makeMap Tryz.prog
  clear h1 h2
  go_enter Tryz.func8, Tryz.ntmps8
  go_wp2_with (first
    | (go_at_call 37; refine (block_own none 0 0 [] rfl _ (.inl rfl)).mono ?_; rintro e2 w2 ⟨x, rfl, HXL, HX2, HB2⟩)
    | (go_at_call 36; refine (repeat_any w2.heap.size (.slice x.A x.l.length x.c) rfl m H1.out H2.out _ (made_byte _ _ _)).mono ?_; rintro e3 w3 ⟨g3, rfl, hr3, hg3, hb3⟩
       have HR3 := Lib.hid hr3
       have HG3 := Lib.hid hg3
       have HB3 := Lib.hid (p := Below w.heap.size w w3) (HB2.out.trans ((((Below.refl w2.heap.size w2).alloc (Nat.le_refl _) (.cells #[.slice x.A x.l.length x.c] 35)).trans (hb3.mono (by simp))).mono HB2.out.size))
       have HX3 := Lib.hid (p := Own8 w.heap.size w3 x) (HX2.out.below ((((Below.refl w2.heap.size w2).alloc (Nat.le_refl _) (.cells #[.slice x.A x.l.length x.c] 35)).trans (hb3.mono (by simp)))))
       clear hr3 hg3 hb3)
    | (refine step_build rfl 77 _ rfl [(0, .slice (some ⟨g3, 0, none⟩) m m), (2, .map (some w3.heap.size))] ?hv _ (built_disk _ _ _ _) ?_; case hv => (simp [Act.eval])))
  go_ret2
  obtain ⟨W, hW⟩ : ∃ W, (w3.alloc (.map #[] 0)).alloc (.cells #[Value.slice (some ⟨g3, 0, none⟩) m m, .slice none 0 0, .map (some w3.heap.size), .slice none 0 0] 77) = W := ⟨_, rfl⟩
  have hM : Below w3.heap.size w3 W := by rw [← hW]; exact ((Below.refl _ _).alloc (Nat.le_refl _) _).alloc (by simp) _
  have hR : Row W (w3.heap.size + 1) 77 [Value.slice (some ⟨g3, 0, none⟩) m m, .slice none 0 0, .map (some w3.heap.size), .slice none 0 0] := by
    have h := Row.made (w3.alloc (.map #[] 0)) 77 [Value.slice (some ⟨g3, 0, none⟩) m m, .slice none 0 0, .map (some w3.heap.size), .slice none 0 0]
    rw [World.size_alloc] at h
    rw [← hW]
    exact h
  have hE : ElAt W w3.heap.size 0 fun _ => nos := by
    rw [← hW]
    exact (ElAt.made w3).below ((Below.refl _ _).alloc (Nat.le_refl _) _)
  have hS : W.heap.size = w3.heap.size + 2 := by rw [← hW]; simp
  rw [hW]
  clear hW
  have hg3 : g3 < w3.heap.size := HR3.out.lt
  have hw := HB3.out.size
  have hg2 : w.heap.size ≤ g3 := Nat.le_trans (Nat.le_trans HB2.out.size (by simp)) HG3.out
  have hx : Own8 w.heap.size W x := HX3.out.below hM
  have hx2 : x.l.length = 256 := by rw [HXL.out, pad_len]
  refine ⟨w3.heap.size + 1, [w3.heap.size + 1, w3.heap.size, g3], x, rfl, HXL.out, ⟨.slice (some ⟨g3, 0, none⟩) m m, .slice none 0 0, w3.heap.size, .slice none 0 0, fun _ => nos, 0, Nat.le_refl _, ?_⟩, HB3.out.trans (hM.mono hw)⟩
  exact { cells := hR
          o1 := by
            rw [flat_rep, List.length_replicate]
            refine ⟨by simp, .inr ⟨g3, m, (List.replicate m (bvv x)).toArray, rfl, hg2, ((hM.block g3 hg3).trans HR3.out.heap), Nat.le_refl _, by have := H2.out; unfold maxLen; omega, by simp, ?_⟩⟩
            exact List.take_of_length_le (by simp)
          o2 := World.ownsRow_nil _ _ _ _
          o4 := World.ownsRow_nil _ _ _ _
          om := hE
          oe := fun a ha => World.ownsRow_nil _ _ _ _
          sep1 := fun a ha => .inl rfl
          sepe := fun a a' _ _ _ => .inl rfl
          m1 := fun y hy => by rw [List.eq_of_mem_replicate hy]; exact ⟨hx, hx2⟩
          m2 := fun p hp => by cases hp
          m4 := fun t ht => by cases ht
          me := fun a ha y hy => by cases hy
          le := fun a ha => Nat.le_refl _
          most := by rw [List.length_replicate]; exact H2.out
          fx := fun k => by
            unfold InFoot
            simp only [List.mem_cons, List.not_mem_nil, or_false]
            constructor
            · rintro (h | h | h)
              · exact .inl h
              · exact .inr (.inl h)
              · exact .inr (.inr (.inl (by rw [h]; rfl)))
            · rintro (h | h | h | h | h | ⟨a, _, h⟩)
              · exact .inl h
              · exact .inr (.inl h)
              · injection h with h
                exact .inr (.inr h.symm)
              · cases h
              · cases h
              · cases h
          fl := fun k hk => by
            simp at hk
            rcases hk with rfl | rfl | rfl <;> omega }
end Go.Proofs.YtpocccnhibjjcaaGreatDoor
set_option linter.unusedVariables false
namespace Go.Proofs.YtpocccnhibjjcaaGreatDoor
open Go.RowKit
def recC : List Value := [.int .i64 0, .int .u32 0, .int .u32 0] ++ brr 32 (fun _ => 0)
def rootC (e : Nat) : List Value := [.int .u32 (e : Int)] ++ recC
def anchC (e : Nat) (v : Value) : List Value := rootC e ++ [v]
theorem recC_len : recC.length = 35 := by simp [recC, brr_len]
theorem rootC_len (e : Nat) : (rootC e).length = 36 := by simp [rootC, recC_len]
theorem recC_one : ∀ v ∈ recC, v.oneCell' = true := by
  intro v hv
  rcases List.mem_append.1 hv with hv | hv
  · simp at hv
    rcases hv with rfl | rfl <;> rfl
  · exact brr_one _ _ v hv
theorem rootC_one (e : Nat) : ∀ v ∈ rootC e, v.oneCell' = true := by
  intro v hv
  rcases List.mem_append.1 hv with hv | hv
  · simp at hv
    subst hv
    rfl
  · exact recC_one v hv
theorem info_recA : (Tryz.prog.info? 87).map (·.size) = some 35 := by kernel_rfl
theorem info_root : (Tryz.prog.info? 92).map (·.size) = some 36 := by kernel_rfl
theorem built_anch : Tryz.prog.built 94 [] = some (anchC 0 (.slice none 0 0)).toArray := by kernel_rfl
theorem built_root (e : Nat) : Tryz.prog.built 92 [(0, .int .u32 (e : Int))] = some (rootC e).toArray := by kernel_rfl
theorem built_root0 : Tryz.prog.built 92 [] = some (rootC 0).toArray := by kernel_rfl
def NewA (w : World) (e : Ending) (w' : World) : Prop := ∃ g, e = .returned (.pointer (some ⟨g, 0, none⟩)) ∧ Row w' g 94 (anchC 0 (.slice none 0 0)) ∧ w.heap.size ≤ g ∧ Below w.heap.size w w'
theorem newanchor (w : World) : Calls Tryz.prog 10 #[] w (NewA w) := by
  go_enter Tryz.func10, Tryz.ntmps10
  go_wp2
  go_ret
  refine ⟨w.heap.size, rfl, ?_, Nat.le_refl _, (Below.refl _ _).alloc (Nat.le_refl _) _⟩
  unfold Row
  rw [World.alloc_heap_new]
  kernel_rfl
theorem set_nil (w : World) (e : Nat) : Calls Tryz.prog 69 #[.pointer none, .agg (rootC e).toArray] w fun x w' => x = .returned (.int .i64 205) ∧ Below w.heap.size w w' := by
  go_enter Tryz.func69, Tryz.ntmps69
  go_wp2_with (first
    | (refine step_box rfl 3 rfl 92 _ rfl (rootC e) rfl ?_; intro g3 w1 hr1 hg1 hb1 hs1))
  go_quiet (fail)
  go_wp2
  go_ret
  exact ⟨rfl, below_drewN hb1 _⟩
set_option maxHeartbeats 1000000 in
theorem set_two (w : World) (ga : Nat) (hA : Row w ga 94 (anchC 0 (.slice none 0 0))) : Calls Tryz.prog 69 #[.pointer (some ⟨ga, 0, none⟩), .agg (rootC 2).toArray] w fun x w' => x = .returned (.int .i64 205) ∧ Below w.heap.size w w' := by
  have HA := Lib.hid hA
  clear hA
  go_enter Tryz.func69, Tryz.ntmps69
  go_wp2_with (first
    | (refine step_box rfl 3 rfl 92 _ rfl (rootC 2) rfl ?_; intro g3 w1 hr1 hg1 hb1 hs1))
  have c0 : w1.cell? ⟨g3, 0, none⟩ = some (.int .u32 2) := by rw [hr1.cell]; rfl
  have c1 : w1.cell? ⟨ga, 0, none⟩ = some (.int .u32 0) := by rw [(HA.out.kept hb1).cell]; rfl
  have e1 : IntKind.u64.wrap 1 = 1 := by decide
  go_quiet (fail)
  go_wp2
  go_ret
  exact ⟨rfl, below_drewN hb1 _⟩
def SomeB (w : World) (e : Ending) (w' : World) : Prop := ∃ A n c, e = .returned (.slice A n c) ∧ Below w.heap.size w w'
theorem put_zero (A : Option Addr) (n c : Nat) (l : List UInt8) (hn : n = l.length) (w : World) (hA : Hol w A l) (hl : l.length ≤ 100) :
    Calls Tryz.prog 118 #[.slice A n c, .int .i64 4, .int .u64 0] w fun e w' => ∃ A' c' m, e = .returned (.tuple #[.slice A' m c', .int .i64 0]) ∧ Hid (m = l.length + 4) ∧ Hid (w'.ownsRow w.heap.size 5 1 (.slice A' m c') m (bc (l ++ leb 0 4))) ∧ Hid (Below w.heap.size w w') := by
  subst hn
  refine (put_any A c l 4 0 w hA (by omega) (by omega)).mono ?_
  rintro e w' ⟨v, rfl, hown, hb⟩
  have hr : putR l 4 0 = (l ++ leb 0 4, 0) := by unfold putR; rw [if_neg (by decide), if_neg (by simp)]; rfl
  rw [hr] at hown ⊢
  obtain ⟨A', c', rfl⟩ := own_sl hown
  exact ⟨A', c', _, rfl, by rw [List.length_append]; rfl, hown, hb⟩
set_option maxRecDepth 20000 in
set_option maxHeartbeats 2000000 in
theorem record_zero (w : World) : Calls Tryz.prog 96 #[.agg recC.toArray] w (SomeB w) := by
  obtain ⟨i, U⟩ := u8_tab
  go_enter Tryz.func96, Tryz.ntmps96
  go_wp2_with (first
    | (refine step_box rfl 1 rfl 87 _ rfl recC rfl ?_; intro g3 w1 hr1 hg1 hb1 hs1
       have c0 : w1.cell? ⟨g3, 0, none⟩ = some (.int .i64 0) := by rw [hr1.cell]; rfl
       have c1 : w1.cell? ⟨g3, 1, none⟩ = some (.int .u32 0) := by rw [hr1.cell]; rfl
       have c2 : w1.cell? ⟨g3, 2, none⟩ = some (.int .u32 0) := by rw [hr1.cell]; rfl
       have HR := Lib.hid hr1
       have HB := Lib.hid hb1
       clear hr1 hb1 hg1 hs1))
  go_loopw [3, 14] (fun x y wr => ∃ (k : Nat) (A : Option Addr) (n c : Nat) (l : List UInt8), k ≤ 3 ∧ y = .int .i64 (k : Int) ∧ x = .slice A n c ∧ Hid (n = l.length) ∧ Hid (l.length = 4 * k) ∧ Hid (wr.ownsRow w.heap.size 5 1 (.slice A n c) n (bc l)) ∧ Hid (Below w1.heap.size w1 wr)) (fun _ y _ => 3 - (intOf y).toNat)
  case atStart => exact ⟨0, none, 0, 0, [], by omega, rfl, rfl, Lib.hid rfl, Lib.hid rfl, Lib.hid (World.ownsRow_nil _ _ _ _), Lib.hid (Below.refl _ _)⟩
  case round =>
    obtain ⟨k, A, n, c, l, hk, rfl, rfl, HN, HL, HO, HB2⟩ := hrel
    by_cases h3 : k = 3
    · subst h3
      have HA8 := Lib.hid (p := Hol wr (some ⟨g3, 3, none⟩) (List.replicate 32 0)) (.inr ⟨g3, 3, rfl, fun j x hx => by
        have hj : j < 32 := by
          have := (List.getElem?_eq_some_iff.1 hx).1
          simpa using this
        rw [List.getElem?_replicate, if_pos hj] at hx
        injection hx with hx
        subst hx
        rw [(HR.out.kept HB2.out).cell]
        unfold recC
        rw [List.getElem?_append_right (by simp), show 3 + j - [Value.int IntKind.i64 0, Value.int IntKind.u32 0, Value.int IntKind.u32 0].length = j by simp, brr_get _ hj]
        rfl⟩)
      have HSZ := Lib.hid (p := w.heap.size ≤ wr.heap.size) (Nat.le_trans HB.out.size HB2.out.size)
      go_wp2_with (at_builtin; refine wpList_app _ rfl _ _ _ rfl 5 i U w.heap.size _ n (bc l) rfl HO.out (some ⟨g3, 3, none⟩) 32 32 (List.replicate 32 0) rfl rfl HA8.out (by have := HL.out; have := HN.out; omega) HSZ.out ?_
                   intro v6 w6 hr6 hg6 hat6
                   obtain ⟨A6, c6, rfl⟩ := own_sl hr6)
      go_ret
      exact ⟨A6, _, c6, rfl, (below_nxt HB2.out HB.out).grown hg6 HSZ.out (fun q hq => (HO.out.lt q hq).1)⟩
    · have hki : (k : Int) < 3 := by omega
      have hk3 : k < 3 := by omega
      have hkw : IntKind.i64.wrap ((k : Int) + 1) = (k : Int) + 1 := by rw [IntKind.wrap_i64]; omega
      have hidx : ∀ W : World, (Instr.index 175 (.agg #[Value.int .u32 0, .int .u32 0, .int .u32 0]) (.int .i64 (k : Int))).run Tryz.prog W = .ok (.int .u32 0) W := fun W => by
        have e0 := run_index_arr W 175 44 3 (fun _ => 0) k hk3 Tryz.underlying175 Tryz.underlying44 (by kernel_rfl)
        have e1 : (arr 3 fun _ => 0).toArray = #[Value.int .u32 0, .int .u32 0, .int .u32 0] := by kernel_rfl
        have e2 : _root_.Go.Proofs.YtpocccnhibjjcaaGreatDoor.U 0 = Value.int .u32 0 := by kernel_rfl
        rw [e1, e2] at e0
        exact e0
      have HK3 := Lib.hid hk3
      clear hk3 h3 hk
      go_wp2_with (go_at_call 118; refine (put_zero A n c l HN.out _ (Hol.own HO.out) (by have := HL.out; have := HK3.out; omega)).mono ?_; rintro e w5 ⟨A5, c5, m5, rfl, HN5, HO5, HB5⟩)
      go_roundw
      case rel => exact ⟨k + 1, A5, m5, c5, l ++ leb 0 4, HK3.out, by go_num, rfl, Lib.hid (by rw [HN5.out, List.length_append]; rfl), Lib.hid (by rw [List.length_append, HL.out, show (leb 0 4).length = 4 from rfl]; omega), Lib.hid (World.ownsRow.mono HO5.out (Nat.le_trans HB.out.size HB2.out.size)), Lib.hid (below_nxt HB5.out HB2.out)⟩
      case measure => have := HK3.out; simp [intOf]; omega
def RootS (g3 : Nat) (W : World) : Prop := W.cell? ⟨g3, 0, none⟩ = some (.int .u32 1) ∧ W.rangeAt g3 1 recC
theorem RootS.far {g3 ga : Nat} {W : World} (h : RootS g3 W) (hne : g3 ≠ ga) (u : Value) : RootS g3 (W.setCell ⟨ga, 36, none⟩ u) :=
  ⟨(World.cell?_of_block (w := W) (Below.heap_setCell W ⟨ga, 36, none⟩ u g3 hne)).trans h.1, fun j v hv => (World.cell?_of_block (w := W) (Below.heap_setCell W ⟨ga, 36, none⟩ u g3 hne)).trans (h.2 j v hv)⟩
theorem made_src (w : World) (t : TypeId) (cs : List Value) : (1 : Nat) = 0 ∧ (some (⟨w.heap.size, 0, none⟩ : Addr)) = none ∨ ∃ ad, some (⟨w.heap.size, 0, none⟩ : Addr) = some ad ∧ ∀ j u, cs[j]? = some u → (w.alloc (.cells cs.toArray t)).cell? (ad.add j) = some u :=
  .inr ⟨_, rfl, fun j u hu => by rw [Addr.add_lit, Nat.zero_add, (Row.made w t cs).cell]; exact hu⟩
theorem three_one (a b : Int) (A : Option Addr) (n c : Nat) : ∀ u ∈ [Value.int .i64 a, .int .i64 b, .slice A n c], u.oneCell' = true := by
  intro u hu
  simp at hu
  rcases hu with rfl | rfl | rfl <;> rfl
theorem row_cells {g : Nat} {t : TypeId} : ∀ (cs : List Value) (o : Nat) (w : World) (ol : List Value), Row w g t ol →
    ∃ ol', Row (w.setCells g o cs) g t ol' ∧ (∀ i, o + cs.length ≤ i → ol'[i]? = ol[i]?) ∧ w.grownBy (w.setCells g o cs) (some g)
  | [], o, w, ol, h => ⟨ol, h, fun _ _ => rfl, rfl, rfl, rfl, Nat.le_refl _, fun _ _ _ => rfl⟩
  | v :: r, o, w, ol, h => by
    obtain ⟨ol', h1, h2, h3⟩ := row_cells r (o + 1) (w.setCell ⟨g, o, none⟩ v) _ (h.put o v)
    refine ⟨ol', h1, fun i hi => ?_, grown_trans (grown_set w ⟨g, o, none⟩ v) h3⟩
    rw [h2 i (by simp at hi; omega), List.getElem?_set_ne (by simp at hi; omega)]
set_option maxRecDepth 20000 in
set_option maxHeartbeats 400000 in
theorem set_one (w : World) (ga : Nat) (hA : Row w ga 94 (anchC 0 (.slice none 0 0))) : Calls Tryz.prog 69 #[.pointer (some ⟨ga, 0, none⟩), .agg (rootC 1).toArray] w fun x w' => x = .returned (.int .i64 0) ∧ Chg [ga] w w' := by
  have HA := Lib.hid hA
  clear hA
  go_enter Tryz.func69, Tryz.ntmps69
  go_wp2_with (first
    | (refine step_box rfl 3 rfl 92 _ rfl (rootC 1) rfl ?_; intro g3 w1 hr1 hg1 hb1 hs1))
  have c0 : w1.cell? ⟨g3, 0, none⟩ = some (.int .u32 1) := by rw [hr1.cell]; rfl
  have c1 : w1.cell? ⟨ga, 0, none⟩ = some (.int .u32 0) := by rw [(HA.out.kept hb1).cell]; rfl
  have e1 : IntKind.u64.wrap 1 = 1 := by decide
  have HR1 := Lib.hid hr1
  have HB1 := Lib.hid hb1
  have HG3 := Lib.hid (p := w.heap.size = g3) hg1.out.symm
  have HA1 := Lib.hid (HA.out.kept hb1)
  clear hr1 hb1 hg1 hs1
  go_quiet (fail)
  go_wp2_with (first
    | (refine step_load rfl 21 rfl 92 (.tmp 3) rfl g3 rfl (rootC 1) _ (HR1.out.drewN nq).all Tryz.underlying92 rfl (by rw [rootC_len]; exact info_root) ?_)
    | (refine wpList_store_mid rfl 92 (.tmp 23) (.tmp 21) rfl ga 0 (rootC 1).toArray rfl rfl (by have h0 := (HA1.out.drewN nq).is_there 0 36 (by simp [anchC, rootC_len]); rw [List.size_toArray, rootC_len]; exact h0) (by rw [List.size_toArray, rootC_len]; exact info_root) (all_oneCell_toArray (rootC_one 1)) ?_))
  obtain ⟨ol, h1, h2, h3⟩ := row_cells (rootC 1) 0 _ _ (HA1.out.drewN nq)
  have x1 : ol[36]? = some (.slice none 0 0) := by
    rw [h2 36 (by simp [rootC_len])]
    unfold anchC
    rw [List.getElem?_append_right (by rw [rootC_len]; omega), rootC_len]
    rfl
  have HB1d : Below w.heap.size w (w1.drewN nq) := below_drewN HB1.out nq
  have hr3 : Row (w1.drewN nq) g3 92 (rootC 1) := HR1.out.drewN nq
  have hne : g3 ≠ ga := (HR1.out.ne_ HA1.out (by decide))
  obtain ⟨w2, hw2⟩ : ∃ w2, (w1.drewN nq).setCells ga 0 (rootC 1) = w2 := ⟨_, rfl⟩
  rw [hw2] at h1 h3 ⊢
  have HC2 := Lib.hid (p := Chg [ga] w w2) ((Chg.of HB1d).grown h3 (fun k hk => by injection hk with hk; subst hk; exact .inl (by simp)))
  have hr4 := hr3.grown h3 (fun e => hne (by injection e))
  have c0b : w2.cell? ⟨g3, 0, none⟩ = some (.int .u32 1) := by rw [hr4.cell]; rfl
  have c36 : w2.cell? ⟨ga, 36, none⟩ = some (.slice none 0 0) := by rw [h1.cell]; exact x1
  have f36 : w2.frozen? ⟨ga, 36, none⟩ = false := h1.free 36
  have hra : w2.rangeAt g3 1 recC := fun j v hv => by
    rw [hr4.cell]
    unfold rootC
    rw [List.getElem?_append_right (by simp)]
    simpa [Nat.add_comm] using hv
  have HRW := Lib.hid h1
  have HR4 := Lib.hid hr4
  have i35 : (Tryz.prog.info? 87).map (·.size) = some recC.length := by rw [recC_len]; exact info_recA
  clear h1 h2 h3 hr3 hw2 HB1d c0 c1 x1 hr4
  have e2 : IntKind.i64.wrap 1 = 1 := by decide
  have HSZ := Lib.hid (p := w.heap.size ≤ w2.heap.size) HC2.out.size
  have Q36 := Lib.hid (p := ∀ w5 : World, Below w2.heap.size w2 w5 → w5.cell? ⟨ga, 36, none⟩ = some (.slice none 0 0) ∧ w5.frozen? ⟨ga, 36, none⟩ = false ∧ RootS g3 w5) fun w5 hb =>
    ⟨(hb.cell (p := ⟨ga, 36, none⟩) HRW.out.lt).trans c36, (HRW.out.kept hb).free 36, (hb.cell (p := ⟨g3, 0, none⟩) HR4.out.lt).trans c0b, fun j v hv => (hb.cell (p := ⟨g3, 1 + j, none⟩) HR4.out.lt).trans (hra j v hv)⟩
  have HGN := Lib.hid (p := ga < w2.heap.size) HRW.out.lt
  clear c0b f36 hra
  go_wp2
  refine wp_region_held_drew (S := RootS g3) (by kernel_rfl) (Q36.out _ (below_drw _)).2.2 (fun hHeld => ?_)
  refine wpAnyH_take (i := 0) (oi := ⟨some 24, .move (.tmp 0), _, _, _, none⟩) (v := (.pointer (some ⟨ga, 0, none⟩))) rfl (by kernel_rfl) (by kernel_rfl) (by kernel_rfl) (fun _ _ _ h => h) (.inl ⟨by rfl, fun w hSw => by (try obtain ⟨z1, z2⟩ := hSw); go_simp⟩) (by assumption) ?_
  simp only [Act.put, List.setIfInBounds_toArray, List.set_cons_zero, List.set_cons_succ]
  refine wpAnyH_take (i := 1) (oi := ⟨some 25, .move (.tmp 0), _, _, _, none⟩) (v := (.pointer (some ⟨ga, 0, none⟩))) rfl (by kernel_rfl) (by kernel_rfl) (by kernel_rfl) (fun _ _ _ h => h) (.inl ⟨by rfl, fun w hSw => by (try obtain ⟨z1, z2⟩ := hSw); go_simp⟩) (by assumption) ?_
  simp only [Act.put, List.setIfInBounds_toArray, List.set_cons_zero, List.set_cons_succ]
  refine wpAnyH_take (i := 5) (oi := ⟨some 29, .fieldAddr 92 (.tmp 3) 0, _, _, _, none⟩) (v := (.pointer (some ⟨g3, 0, none⟩))) rfl (by kernel_rfl) (by kernel_rfl) (by kernel_rfl) (fun _ _ _ h => h) (.inl ⟨by rfl, fun w hSw => by (try obtain ⟨z1, z2⟩ := hSw); go_simp⟩) (by assumption) ?_
  simp only [Act.put, List.setIfInBounds_toArray, List.set_cons_zero, List.set_cons_succ]
  refine wpAnyH_take (i := 8) (oi := ⟨some 32, .fieldAddr 92 (.tmp 3) 1, _, _, _, none⟩) (v := (.pointer (some ⟨g3, 1, none⟩))) rfl (by kernel_rfl) (by kernel_rfl) (by kernel_rfl) (fun _ _ _ h => h) (.inl ⟨by rfl, fun w hSw => by (try obtain ⟨z1, z2⟩ := hSw); go_simp⟩) (by assumption) ?_
  simp only [Act.put, List.setIfInBounds_toArray, List.set_cons_zero, List.set_cons_succ]
  refine wpAnyH_take (i := 2) (oi := ⟨some 26, .nilCheck (.tmp 25), _, _, _, none⟩) (v := (.pointer (some ⟨ga, 0, none⟩))) rfl (by kernel_rfl) (by kernel_rfl) (by kernel_rfl) (fun _ _ _ h => h) (.inl ⟨by rfl, fun w hSw => by (try obtain ⟨z1, z2⟩ := hSw); go_simp⟩) (by assumption) ?_
  simp only [Act.put, List.setIfInBounds_toArray, List.set_cons_zero, List.set_cons_succ]
  refine wpAnyH_take (i := 3) (oi := ⟨some 27, .fieldAddr 94 (.tmp 26) 1, _, _, _, none⟩) (v := (.pointer (some ⟨ga, 36, none⟩))) rfl (by kernel_rfl) (by kernel_rfl) (by kernel_rfl) (fun _ _ _ h => h) (.inl ⟨by rfl, fun w hSw => by (try obtain ⟨z1, z2⟩ := hSw); go_simp⟩) (by assumption) ?_
  simp only [Act.put, List.setIfInBounds_toArray, List.set_cons_zero, List.set_cons_succ]
  refine wpAnyH_take (i := 6) (oi := ⟨some 30, .load 44 (.tmp 29), _, _, _, none⟩) (v := (.int .u32 1)) rfl (by kernel_rfl) (by kernel_rfl) (by kernel_rfl) (fun _ _ _ h => h) (.inl ⟨by rfl, fun w hSw => by (try obtain ⟨z1, z2⟩ := hSw); go_simp⟩) (by assumption) ?_
  simp only [Act.put, List.setIfInBounds_toArray, List.set_cons_zero, List.set_cons_succ]
  refine wpAnyH_take (i := 7) (oi := ⟨some 31, .convert 44 3 (.tmp 30), _, _, _, none⟩) (v := (.int .i64 1)) rfl (by kernel_rfl) (by kernel_rfl) (by kernel_rfl) (fun _ _ _ h => h) (.inl ⟨by rfl, fun w hSw => by (try obtain ⟨z1, z2⟩ := hSw); go_simp⟩) (by assumption) ?_
  simp only [Act.put, List.setIfInBounds_toArray, List.set_cons_zero, List.set_cons_succ]
  refine wpAnyH_take (i := 9) (oi := ⟨some 33, .load 87 (.tmp 32), _, _, _, none⟩) (v := .agg recC.toArray) rfl (by kernel_rfl) (by kernel_rfl) (by kernel_rfl) (fun _ _ _ h => h) (yieldsIf_load_mid (by rfl) 87 (.tmp 32) rfl g3 1 rfl recC _ (fun w hSw => hSw.2) Tryz.underlying87 rfl i35) (by assumption) ?_
  simp only [Act.put, List.setIfInBounds_toArray, List.set_cons_zero, List.set_cons_succ]
  refine wpAnyH_ready (rs := [4, 10]) (by kernel_rfl) (by simp) ?_
  refine AllReadyH.cons (o := ⟨some 28, .load 75 (.tmp 27), _, _, _, none⟩) rfl (fun K hK => ?_) (AllReadyH.cons (o := ⟨some 34, .call ⟨.value (.func 96), #[.tmp 33], _⟩, _, _, _, none⟩) rfl (fun K hK => ?_) AllReadyH.nil)
  · skip
    go_simp
    refine hK.out _ _ hHeld (fun hH1 => ?_)
    clear hK K
    refine wpAnyH_ready (rs := [10]) (by kernel_rfl) (by simp) ?_
    refine AllReadyH.cons (o := ⟨some 34, .call ⟨.value (.func 96), #[.tmp 33], _⟩, _, _, _, none⟩) rfl (fun K hK => ?_) AllReadyH.nil
    go_simp
    refine (record_zero _).mono ?_
    rintro x4 w4 ⟨A4, n4, c4, rfl, hb4⟩
    have hb24 : Below w2.heap.size w2 w4 := below_nxt hb4 (below_drw _)
    obtain ⟨d4, f4, s4⟩ := Q36.out _ hb24
    have HB24 := Lib.hid hb24
    clear hb24 hb4
    refine hK.out _ _ s4 (fun hH2 => ?_)
    clear hK K
    refine wpAnyH_take (i := 11) (oi := ⟨some 35, .build 157 #[(0, .const (.int .i64 4)), (1, .tmp 31), (2, .tmp 34)], _, _, _, none⟩) (v := (.agg #[.int .i64 4, .int .i64 1, .slice A4 n4 c4])) rfl (by kernel_rfl) (by kernel_rfl) (by kernel_rfl) (fun _ _ _ h => h) (.inl ⟨by rfl, fun w hSw => by (try obtain ⟨z1, z2⟩ := hSw); go_simp⟩) (by assumption) ?_
    simp only [Act.put, List.setIfInBounds_toArray, List.set_cons_zero, List.set_cons_succ]
    refine wpAnyH_ready (rs := [12]) (by kernel_rfl) (by simp) ?_
    refine AllReadyH.cons (o := ⟨some 36, .buildSlice 75 1 #[(0, .tmp 35)], _, _, _, none⟩) rfl (fun K hK => ?_) AllReadyH.nil
    go_simp
    have hb25 : Below w2.heap.size w2 (w4.alloc (.cells #[.int .i64 4, .int .i64 1, .slice A4 n4 c4] 157)) := HB24.out.alloc HB24.out.size _
    obtain ⟨d5, f5, s5⟩ := Q36.out _ hb25
    have HB25 := Lib.hid hb25
    clear hb25
    refine hK.out _ _ s5 (fun hH3 => ?_)
    clear hK K
    refine wpAnyH_ready (rs := [13]) (by kernel_rfl) (by simp) ?_
    refine AllReadyH.cons (o := ⟨some 37, .call ⟨.builtin .append, #[.tmp 28, .tmp 36], #[75, 75]⟩, _, _, _, none⟩) rfl (fun K hK => ?_) AllReadyH.nil
    refine step_join rfl (.tmp 28) (.tmp 36) rfl rec_touch w2.heap.size (.slice none 0 0) 0 [] rfl (World.ownsRow_nil _ _ _ _) (some ⟨w4.heap.size, 0, none⟩) 1 1 [.int .i64 4, .int .i64 1, .slice A4 n4 c4] rfl rfl (made_src w4 _ _) (three_one _ _ _ _ _) (by omega) HB25.out.size ?_
    intro v6 w6 hr6 hg6 hat6
    obtain ⟨A6, k6, rfl⟩ := own_sl hr6
    have hb26 : Below w2.heap.size w2 w6 := HB25.out.grown hg6 HB25.out.size (fun q hq => by cases hq)
    obtain ⟨d6, f6, s6⟩ := Q36.out _ hb26
    have HB26 := Lib.hid hb26
    clear hb26 hr6 hg6 hat6
    refine hK.out _ _ s6 (fun hH4 => ?_)
    clear hK K
    try simp only [Act.put, List.setIfInBounds_toArray, List.set_cons_zero, List.set_cons_succ]
    refine wpAnyH_take (i := 14) (oi := ⟨some 38, .nilCheck (.tmp 24), _, _, _, none⟩) (v := (.pointer (some ⟨ga, 0, none⟩))) rfl (by kernel_rfl) (by kernel_rfl) (by kernel_rfl) (fun _ _ _ h => h) (.inl ⟨by rfl, fun w hSw => by go_simp⟩) (by assumption) ?_
    try simp only [Act.put, List.setIfInBounds_toArray, List.set_cons_zero, List.set_cons_succ]
    refine wpAnyH_take (i := 15) (oi := ⟨some 39, .fieldAddr 94 (.tmp 38) 1, _, _, _, none⟩) (v := (.pointer (some ⟨ga, 36, none⟩))) rfl (by kernel_rfl) (by kernel_rfl) (by kernel_rfl) (fun _ _ _ h => h) (.inl ⟨by rfl, fun w hSw => by go_simp⟩) (by assumption) ?_
    try simp only [Act.put, List.setIfInBounds_toArray, List.set_cons_zero, List.set_cons_succ]
    refine wpAnyH_ready (rs := [16]) (by kernel_rfl) (by simp) ?_
    refine AllReadyH.cons (o := ⟨none, .store 75 (.tmp 39) (.tmp 37), _, _, _, none⟩) rfl (fun K hK => ?_) AllReadyH.nil
    go_simp
    refine hK.out _ _ (s6.far hne _) (fun hH5 => ?_)
    clear hK K
    refine wpAnyH_done (by kernel_rfl) ?_ _
    go_wp2
    go_ret
    exact ⟨rfl, (HC2.out.trans (Chg.of (F := [ga]) HB26.out) (fun x hx => .inl hx)).setCell (p := ⟨ga, 36, none⟩) (.inl (by simp)) _⟩
  · skip
    go_simp
    refine (record_zero _).mono ?_
    rintro x4 w4 ⟨A4, n4, c4, rfl, hb4⟩
    have hb24 : Below w2.heap.size w2 w4 := below_nxt hb4 (below_drw _)
    obtain ⟨d4, f4, s4⟩ := Q36.out _ hb24
    have HB24 := Lib.hid hb24
    clear hb24 hb4
    refine hK.out _ _ s4 (fun hH2 => ?_)
    clear hK K
    refine wpAnyH_take (i := 11) (oi := ⟨some 35, .build 157 #[(0, .const (.int .i64 4)), (1, .tmp 31), (2, .tmp 34)], _, _, _, none⟩) (v := (.agg #[.int .i64 4, .int .i64 1, .slice A4 n4 c4])) rfl (by kernel_rfl) (by kernel_rfl) (by kernel_rfl) (fun _ _ _ h => h) (.inl ⟨by rfl, fun w hSw => by (try obtain ⟨z1, z2⟩ := hSw); go_simp⟩) (by assumption) ?_
    simp only [Act.put, List.setIfInBounds_toArray, List.set_cons_zero, List.set_cons_succ]
    refine wpAnyH_ready (rs := [4, 12]) (by kernel_rfl) (by simp) ?_
    refine AllReadyH.cons (o := ⟨some 28, .load 75 (.tmp 27), _, _, _, none⟩) rfl (fun K hK => ?_) (AllReadyH.cons (o := ⟨some 36, .buildSlice 75 1 #[(0, .tmp 35)], _, _, _, none⟩) rfl (fun K hK => ?_) AllReadyH.nil)
    · skip
      go_simp
      refine hK.out _ _ s4 (fun hH1 => ?_)
      clear hK K
      refine wpAnyH_ready (rs := [12]) (by kernel_rfl) (by simp) ?_
      refine AllReadyH.cons (o := ⟨some 36, .buildSlice 75 1 #[(0, .tmp 35)], _, _, _, none⟩) rfl (fun K hK => ?_) AllReadyH.nil
      go_simp
      have hb25 : Below w2.heap.size w2 (w4.alloc (.cells #[.int .i64 4, .int .i64 1, .slice A4 n4 c4] 157)) := HB24.out.alloc HB24.out.size _
      obtain ⟨d5, f5, s5⟩ := Q36.out _ hb25
      have HB25 := Lib.hid hb25
      clear hb25
      refine hK.out _ _ s5 (fun hH3 => ?_)
      clear hK K
      refine wpAnyH_ready (rs := [13]) (by kernel_rfl) (by simp) ?_
      refine AllReadyH.cons (o := ⟨some 37, .call ⟨.builtin .append, #[.tmp 28, .tmp 36], #[75, 75]⟩, _, _, _, none⟩) rfl (fun K hK => ?_) AllReadyH.nil
      refine step_join rfl (.tmp 28) (.tmp 36) rfl rec_touch w2.heap.size (.slice none 0 0) 0 [] rfl (World.ownsRow_nil _ _ _ _) (some ⟨w4.heap.size, 0, none⟩) 1 1 [.int .i64 4, .int .i64 1, .slice A4 n4 c4] rfl rfl (made_src w4 _ _) (three_one _ _ _ _ _) (by omega) HB25.out.size ?_
      intro v6 w6 hr6 hg6 hat6
      obtain ⟨A6, k6, rfl⟩ := own_sl hr6
      have hb26 : Below w2.heap.size w2 w6 := HB25.out.grown hg6 HB25.out.size (fun q hq => by cases hq)
      obtain ⟨d6, f6, s6⟩ := Q36.out _ hb26
      have HB26 := Lib.hid hb26
      clear hb26 hr6 hg6 hat6
      refine hK.out _ _ s6 (fun hH4 => ?_)
      clear hK K
      try simp only [Act.put, List.setIfInBounds_toArray, List.set_cons_zero, List.set_cons_succ]
      refine wpAnyH_take (i := 14) (oi := ⟨some 38, .nilCheck (.tmp 24), _, _, _, none⟩) (v := (.pointer (some ⟨ga, 0, none⟩))) rfl (by kernel_rfl) (by kernel_rfl) (by kernel_rfl) (fun _ _ _ h => h) (.inl ⟨by rfl, fun w hSw => by go_simp⟩) (by assumption) ?_
      try simp only [Act.put, List.setIfInBounds_toArray, List.set_cons_zero, List.set_cons_succ]
      refine wpAnyH_take (i := 15) (oi := ⟨some 39, .fieldAddr 94 (.tmp 38) 1, _, _, _, none⟩) (v := (.pointer (some ⟨ga, 36, none⟩))) rfl (by kernel_rfl) (by kernel_rfl) (by kernel_rfl) (fun _ _ _ h => h) (.inl ⟨by rfl, fun w hSw => by go_simp⟩) (by assumption) ?_
      try simp only [Act.put, List.setIfInBounds_toArray, List.set_cons_zero, List.set_cons_succ]
      refine wpAnyH_ready (rs := [16]) (by kernel_rfl) (by simp) ?_
      refine AllReadyH.cons (o := ⟨none, .store 75 (.tmp 39) (.tmp 37), _, _, _, none⟩) rfl (fun K hK => ?_) AllReadyH.nil
      go_simp
      refine hK.out _ _ (s6.far hne _) (fun hH5 => ?_)
      clear hK K
      refine wpAnyH_done (by kernel_rfl) ?_ _
      go_wp2
      go_ret
      exact ⟨rfl, (HC2.out.trans (Chg.of (F := [ga]) HB26.out) (fun x hx => .inl hx)).setCell (p := ⟨ga, 36, none⟩) (.inl (by simp)) _⟩
    · skip
      go_simp
      have hb25 : Below w2.heap.size w2 (w4.alloc (.cells #[.int .i64 4, .int .i64 1, .slice A4 n4 c4] 157)) := HB24.out.alloc HB24.out.size _
      obtain ⟨d5, f5, s5⟩ := Q36.out _ hb25
      have HB25 := Lib.hid hb25
      clear hb25
      refine hK.out _ _ s5 (fun hH3 => ?_)
      clear hK K
      refine wpAnyH_ready (rs := [4]) (by kernel_rfl) (by simp) ?_
      refine AllReadyH.cons (o := ⟨some 28, .load 75 (.tmp 27), _, _, _, none⟩) rfl (fun K hK => ?_) AllReadyH.nil
      go_simp
      refine hK.out _ _ s5 (fun hH1 => ?_)
      clear hK K
      refine wpAnyH_ready (rs := [13]) (by kernel_rfl) (by simp) ?_
      refine AllReadyH.cons (o := ⟨some 37, .call ⟨.builtin .append, #[.tmp 28, .tmp 36], #[75, 75]⟩, _, _, _, none⟩) rfl (fun K hK => ?_) AllReadyH.nil
      refine step_join rfl (.tmp 28) (.tmp 36) rfl rec_touch w2.heap.size (.slice none 0 0) 0 [] rfl (World.ownsRow_nil _ _ _ _) (some ⟨w4.heap.size, 0, none⟩) 1 1 [.int .i64 4, .int .i64 1, .slice A4 n4 c4] rfl rfl (made_src w4 _ _) (three_one _ _ _ _ _) (by omega) HB25.out.size ?_
      intro v6 w6 hr6 hg6 hat6
      obtain ⟨A6, k6, rfl⟩ := own_sl hr6
      have hb26 : Below w2.heap.size w2 w6 := HB25.out.grown hg6 HB25.out.size (fun q hq => by cases hq)
      obtain ⟨d6, f6, s6⟩ := Q36.out _ hb26
      have HB26 := Lib.hid hb26
      clear hb26 hr6 hg6 hat6
      refine hK.out _ _ s6 (fun hH4 => ?_)
      clear hK K
      try simp only [Act.put, List.setIfInBounds_toArray, List.set_cons_zero, List.set_cons_succ]
      refine wpAnyH_take (i := 14) (oi := ⟨some 38, .nilCheck (.tmp 24), _, _, _, none⟩) (v := (.pointer (some ⟨ga, 0, none⟩))) rfl (by kernel_rfl) (by kernel_rfl) (by kernel_rfl) (fun _ _ _ h => h) (.inl ⟨by rfl, fun w hSw => by go_simp⟩) (by assumption) ?_
      try simp only [Act.put, List.setIfInBounds_toArray, List.set_cons_zero, List.set_cons_succ]
      refine wpAnyH_take (i := 15) (oi := ⟨some 39, .fieldAddr 94 (.tmp 38) 1, _, _, _, none⟩) (v := (.pointer (some ⟨ga, 36, none⟩))) rfl (by kernel_rfl) (by kernel_rfl) (by kernel_rfl) (fun _ _ _ h => h) (.inl ⟨by rfl, fun w hSw => by go_simp⟩) (by assumption) ?_
      try simp only [Act.put, List.setIfInBounds_toArray, List.set_cons_zero, List.set_cons_succ]
      refine wpAnyH_ready (rs := [16]) (by kernel_rfl) (by simp) ?_
      refine AllReadyH.cons (o := ⟨none, .store 75 (.tmp 39) (.tmp 37), _, _, _, none⟩) rfl (fun K hK => ?_) AllReadyH.nil
      go_simp
      refine hK.out _ _ (s6.far hne _) (fun hH5 => ?_)
      clear hK K
      refine wpAnyH_done (by kernel_rfl) ?_ _
      go_wp2
      go_ret
      exact ⟨rfl, (HC2.out.trans (Chg.of (F := [ga]) HB26.out) (fun x hx => .inl hx)).setCell (p := ⟨ga, 36, none⟩) (.inl (by simp)) _⟩
end Go.Proofs.YtpocccnhibjjcaaGreatDoor
set_option linter.unusedVariables false
set_option maxRecDepth 20000
namespace Go.Proofs.YtpocccnhibjjcaaGreatDoor
open Go.RowKit
structure RecV.Ok (r : RecV) : Prop where
  e : r.e < 4294967296
  s : r.s < 4294967296
theorem RecV.hol_l {w : World} {g : Nat} {t : TypeId} {r : RecV} (h : Row w g t r.cs) : Hol w (some ⟨g, 3, none⟩) r.l := by
  refine .inr ⟨g, 3, rfl, fun j x hx => ?_⟩
  rw [h.cell]
  unfold RecV.cs
  rw [List.getElem?_append_right (by simp), show 3 + j - [Value.int IntKind.i64 r.a, Value.int IntKind.u32 ↑r.e, Value.int IntKind.u32 ↑r.s].length = j by simp, lst_bc]
  exact get_bc hx
set_option maxHeartbeats 1000000 in
theorem record_any (r : RecV) (k : Nat) (hk : r.a = (k : Int)) (hk2 : k < 65536) (hr : r.Ok) (w : World) : Calls Tryz.prog 142 #[.agg r.cs.toArray] w (OwnB r.b w) := by
  obtain ⟨i, U⟩ := u8_tab
  have wk := wrap_u64n (show k < 4294967296 by omega)
  have HK2 := Lib.hid hk2
  have HR := Lib.hid hr
  have HK := Lib.hid hk
  clear hk2 hr
  go_enter Tryz.func142, Tryz.ntmps142
  go_wp2_with (first
    | (refine step_box rfl 1 rfl 87 _ rfl r.cs rfl ?_; intro g w1 hr1 hg hb1 hs
       have c0 : w1.cell? ⟨g, 0, none⟩ = some (.int .i64 (k : Int)) := by rw [RecV.c0 hr1, hk]
       have c1 := RecV.c1 hr1
       have c2 := RecV.c2 hr1
       have HR1 := Lib.hid hr1
       have HB1 := Lib.hid hb1
       clear hr1 hb1 hg hs hk))
  go_region_with (first
    | (go_at_call 157; refine (nnumber2 none 0 0 [] k rfl _ (.inl rfl) HK2.out (by simp)).mono ?_; rintro e2 w2 ⟨A2, n2, d2, rfl, hn2, ho2, hb2⟩
       have HB2 := Lib.hid (p := Below w1.heap.size w1 w2) (below_next hb2.out (below_draw w1))
       have c12 := (HB2.out.cell (p := ⟨g, 1, none⟩) HR1.out.lt).trans c1
       have c22 := (HB2.out.cell (p := ⟨g, 2, none⟩) HR1.out.lt).trans c2
       have HO2 := Lib.hid (Hol.own ho2.out)
       clear ho2 hb2)
    | (go_at_call 124; refine (nonce_any A2 n2 d2 ([] ++ leb k 2) r.e r.s hn2.out _ HO2.out HR.out.e HR.out.s (by simp [leb_len])).mono ?_; rintro e3 w3 ⟨A3, n3, d3, rfl, hn3, ho3, hb3⟩
       have HB3 := Lib.hid (p := Below w1.heap.size w1 w3) (HB2.out.trans (hb3.out.mono HB2.out.size))
       clear hb3))
  all_goals
    have HR3 := Lib.hid (HR1.out.kept HB3.out)
    have HL3 := Lib.hid (RecV.hol_l HR3.out)
    have HO3 := Lib.hid (World.ownsRow.mono ho3.out (Nat.le_trans HB1.out.size HB2.out.size))
    have HS3 := Lib.hid (Nat.le_trans HB1.out.size HB3.out.size)
    clear c0 c1 c2 c12 c22 ho3
    go_wp2_with (at_builtin; refine wpList_app _ rfl _ _ _ rfl 5 i U w.heap.size _ n3 _ rfl HO3.out (some ⟨g, 3, none⟩) 32 32 r.l rfl (r.l_len.symm) HL3.out (by have := hn3.out; simp [leb_len, nonB_len] at this; omega) HS3.out ?_; intro v4 w4 ho4 hg4 hat4; obtain ⟨A4, c4, rfl⟩ := own_sl ho4)
    go_ret
    have e9 : r.b = [] ++ leb k 2 ++ nonB r.e r.s ++ r.l := by unfold RecV.b; rw [HK.out]; rfl
    have hn4 : n3 + 32 = r.b.length := by rw [hn3.out, e9, List.length_append (bs := r.l), r.l_len]
    refine ⟨A4, n3 + 32, c4, rfl, hn4, ?_, (HB1.out.trans (HB3.out.mono HB1.out.size)).grown hg4 HS3.out (fun q hq => (HO3.out.lt q hq).1)⟩
    rw [e9, bc_app (b := r.l)]
    exact ho4
end Go.Proofs.YtpocccnhibjjcaaGreatDoor
