/- The reference's Leaves. Conditions: no more than a million entries, names no longer than 2^32. -/
import Derived.Test.YtijffkklhgnknaaDoorSd1
import Derived.Test.YtijffkklhgnknaaDoorSc1
import Derived.Test.YtijffkklhgnknaaDoorRk
set_option linter.unusedVariables false
set_option maxRecDepth 20000
namespace Go.Proofs.YtijffkklhgnknaaDoor
open Go.RowKit

theorem step_load_gm {P : Program} {ops : Array Oper} {rest : List Oper} {o : Oper} {a : Act} {w : World} {Q : Exit → Act → World → Prop} (hw : Region.wanted o (yielded ops a.tmps) = true) (ty : TypeId) (x : Operand) (ho : o.op = .load ty x) (g off : Nat) (hx : a.eval x = .pointer (some ⟨g, off, none⟩)) (cs : List Value) (dd : TypeDesc)
    (hr : w.rangeAt g off cs) (hu : P.underlying ty = some dd) (hdd : dd.isRow = true) (hi : (P.info? ty).map (·.size) = some cs.length)
    (h : wpList P ops Q rest (a.put o.dst (.agg cs.toArray)) w) : wpList P ops Q (o :: rest) a w := by
  refine wpList_step fun K hK => ?_
  rw [if_pos hw]
  exact wp_load_mid ty x ho g off hx cs dd hr hu hdd hi (hK _ _ h)
/-- The first cell of a row of the call's own, written. -/
theorem own_first {w : World} {b n c : Nat} {e : TypeId} {A : Option Addr} {u : Value} {xs : List Value} (h : w.ownsRow b e 1 (.slice A n c) n (u :: xs)) : ∃ g, A = some ⟨g, 0, none⟩ ∧ b ≤ g ∧ w.cell? ⟨g, 0, none⟩ = some u ∧ w.frozen? ⟨g, 0, none⟩ = false ∧ ∀ v, (w.setCell ⟨g, 0, none⟩ v).ownsRow b e 1 (.slice A n c) n (v :: xs) := by
  have hl := h.1
  rcases h.2 with ⟨h1, h2⟩ | ⟨g, cap, cur, h1, hb, hg, hn, hc, hs, ht⟩
  · subst h2
    simp at hl
  · simp only [Value.slice.injEq] at h1
    obtain ⟨rfl, _, rfl⟩ := h1
    have hr : Row w g e cur.toList := by unfold Row; simpa using hg
    have hcur : ∃ r, cur.toList = u :: r := by
      cases hq : cur.toList with
      | nil => rw [hq] at ht; simp at ht
      | cons y r =>
        rw [hq] at ht
        cases hm : (u :: xs).length with
        | zero => simp at hm
        | succ m =>
          first
            | (rw [hm] at ht; simp at ht; exact ⟨r, by rw [ht.1]⟩)
            | (cases n with
               | zero => simp at hl
               | succ n => simp at ht; exact ⟨r, by rw [ht.1]⟩)
    obtain ⟨r, hcr⟩ := hcur
    refine ⟨g, rfl, hb, by rw [hr.cell, hcr]; rfl, hr.free 0, fun v => ⟨by simpa using hl, .inr ⟨g, c, (v :: r).toArray, rfl, hb, ?_, hn, hc, ?_, ?_⟩⟩⟩
    · have h3 := hr.put 0 v
      rw [hcr] at h3
      exact h3.heap
    · rw [← hs]
      have := congrArg List.length hcr
      simp at this
      simp [this]
    · rw [hcr] at ht
      have h4 : (u :: xs).length = n * 1 := hl
      cases n with
      | zero => simp at h4
      | succ n =>
        simp at ht ⊢
        exact ht
theorem one_hol {w : World} {g : Nat} (h : Row w g 5 [.int .u8 0]) : Hol w (some ⟨g, 0, none⟩) [(0 : UInt8)] := .inr ⟨g, 0, rfl, fun j y hy => by
  rw [Nat.zero_add, h.cell]
  rcases j with _ | j
  · simp at hy; subst hy; rfl
  · simp at hy⟩
theorem pad_eq (b : UInt8) (E : List UInt8) (m : Nat) (hm : m = E.length) (h : m ≤ 255) : (b :: E) ++ List.replicate (256 - (m + 1)) 0 = b :: (E ++ List.replicate (255 - E.length) 0) := by
  subst hm
  rw [List.cons_append, show 256 - (E.length + 1) = 255 - E.length by omega]
theorem pad_more (E : List UInt8) (k : Nat) : (E ++ List.replicate k 0) ++ [0] = E ++ List.replicate (k + 1) (0 : UInt8) := by
  rw [List.append_assoc, List.replicate_succ']
set_option maxHeartbeats 8000000 in
theorem rleaves_any (A : Option Addr) (n c : Nat) (X : List Ent) (hmax : n ≤ 1000000) (w : World) (h : Lies ecs 5 w A X) (hn : X.length = n) (hcap : n ≤ c) (hnm : ∀ e ∈ X, e.nm.size ≤ 4294967296) (hw : Wide X) : Calls Tryd.prog 12 #[.slice A n c] w (LvP w (lvL X) (lvE X)) := by
  obtain ⟨i8, U⟩ := u8_tab
  have HM := Lib.hid (fun w h => rmay_any A n c X hmax w h hn hnm)
  have H := Lib.hid h
  by_cases hmay : MayL X
  · have e1 : lvL X = leaves X := by unfold lvL; rw [if_pos hmay]
    have e2 : lvE X = 0 := by unfold lvE; rw [if_pos hmay]
    rw [e1, e2]
    have HNI := Lib.hid (niceL_may hmay hw)
    have HN := Lib.hid (And.intro hmax hn)
    have HC := Lib.hid hcap
    have HM2 := Lib.hid (fun w h => (HM.out w h).mono (R' := fun e w' => e = .returned (.bool true) ∧ Below w.heap.size w w') (by
      rintro e w' ⟨⟨z, rfl, hz⟩, hb⟩
      rw [hz.2 hmay]
      exact ⟨rfl, hb⟩))
    have HN32 := Lib.hid (p := n ≤ 32) (by have := hmay.1; omega)
    clear HM h hmay e1 e2 hmax hn hcap hnm hw
    go_enter Tryd.func12, Tryd.ntmps12
    go_wp2_with (go_at_call 19; refine (HM2.out _ H.out).mono ?_; rintro e w1 ⟨rfl, hb⟩
                 have HB1 := Lib.hid hb
                 clear hb)
    go_loopw [0, 4] (fun x y wr => ∃ (i q d f m c' : Nat) (B A' : Option Addr) (P : List BV), x = .slice B q d ∧ y = .slice A' m c' ∧ Hid (Lies ecs 5 w B (X.drop i)) ∧ Hid ((X.drop i).length = q) ∧ Hid (q ≤ d) ∧ Hid (OwnBs w.heap.size wr A' m c' P) ∧ Hid (P.map (·.l) ++ leavesN f (X.drop i) = leaves X) ∧ Hid (q ≤ f) ∧ Hid (m + q ≤ n) ∧ Hid (Below w.heap.size w wr)) (fun x _ _ => slen x)
    case atStart => exact ⟨0, n, c, n, 0, 0, A, none, [], rfl, rfl, H, Lib.hid HN.out.2, HC, Lib.hid (OwnBs.nil _ _), Lib.hid (by simp only [List.map_nil, List.nil_append, List.drop_zero]; unfold leaves; rw [HN.out.2]), Lib.hid (Nat.le_refl _), Lib.hid (by omega), HB1⟩
    case round =>
      obtain ⟨i, q, d, f, m, c', B, A', P, rfl, rfl, HL, HQ, HD, HO, HV, HF, HMN, HB⟩ := hrel
      rename World => wo
      by_cases hq : 0 < q
      · have hqi : (0 : Int) < (q : Int) := by omega
        obtain ⟨R, hR⟩ : ∃ R, X.drop i = R := ⟨_, rfl⟩
        rw [hR] at HL HQ HV
        have hNR : NiceL R := fun e he => HNI.out e (by rw [← hR] at he; exact List.mem_of_mem_drop he)
        have hRne : R ≠ [] := fun h0 => by have := HQ.out; rw [h0] at this; simp at this; omega
        obtain ⟨f', hf', hf2⟩ := leavesN_step hRne (by rw [HQ.out]; exact HF.out) (niceL_enb hNR)
        have hp := fitL_pos hRne (niceL_enb hNR)
        have hle := fitL_le R 255
        have hpk := fitL_pack R 255
        obtain ⟨K, hK⟩ : ∃ K, fitL 255 R = K := ⟨_, rfl⟩
        have HIN := Lib.hid (p := ∀ (k : Nat) (x : Ent), R[k]? = some x → k < K → (packL (R.take k)).length + (enb x).length ≤ 255) (fun k x hx hk => fitL_in R 255 k x hx (by omega))
        have HOUT := Lib.hid (p := ∀ (x : Ent), R[K]? = some x → 255 < (packL (R.take K)).length + (enb x).length) (fun x hx => by have := fitL_out R 255 x (by rw [hK]; exact hx); rw [hK] at this; exact this)
        have HLF := Lib.hid (p := UInt8.ofNat K :: (packL (R.take K) ++ List.replicate (255 - (packL (R.take K)).length) 0) = leafB R) (by rw [← hK]; rfl)
        rw [hK] at hf' hf2 hp hle hpk
        have HPL := Lib.hid (p := (packL (R.take K)).length ≤ 255) hpk
        have hlf2 := leafB_len R
        obtain ⟨lf, hlf⟩ : ∃ lf, leafB R = lf := ⟨_, rfl⟩
        rw [hlf] at hf' HLF hlf2
        have hKq : K ≤ q := by have := HQ.out; omega
        obtain ⟨B', d', hrun, hd', hcut⟩ := cut_ent B d q K hKq HD.out
        have HV2 := Lib.hid (p := ∀ bv : BV, bv.l = lf → (P ++ [bv]).map (·.l) ++ leavesN f' (X.drop (i + K)) = leaves X) (fun bv hbv => by
          rw [← HV.out, hf', ← hR, List.drop_drop, List.map_append, List.append_assoc]
          simp [hbv])
        have HQ2 := Lib.hid (p := (X.drop (i + K)).length = q - K) (by rw [← List.drop_drop, hR, List.length_drop, HQ.out])
        have HF2 := Lib.hid (p := q - K ≤ f') (by rw [List.length_drop, HQ.out] at hf2; exact hf2)
        have HCUT := Lib.hid (p := ∀ W : World, Lies ecs 5 W B R → Lies ecs 5 W B' (X.drop (i + K))) (fun W h => by have := hcut W R HQ.out h; rwa [← hR, List.drop_drop] at this)
        have HD2 := Lib.hid hd'
        have HKP := Lib.hid (And.intro hp hKq)
        have HBV := Lib.hid (p := ∀ (A1 : Option Addr) (c1 : Nat), bvv ⟨A1, c1, lf⟩ = .slice A1 256 c1) (fun A1 c1 => by unfold bvv; rw [hlf2])
        have HLL := Lib.hid hlf2
        have HQN := Lib.hid (p := q ≤ 32) (by have := HMN.out; have := HN32.out; omega)
        have HNR := Lib.hid hNR
        clear hR hNR hRne hf' hf2 hp hle hpk hK hlf hlf2 hKq hd' hcut hq HV HF
        have uK := wrap_u8n K (by have := HKP.out; have := HQN.out; omega)
        go_wp2_with (refine step_bsv rfl 33 5 _ rfl Tryd.underlying33 info_b1 _ zero_u8 (.int .u8 0) rfl rfl ?_; intro g1 w2 hr1 hg1 hb1
                     have HO2 := Lib.hid (p := w2.ownsRow wo.heap.size 5 1 (.slice (some ⟨g1, 0, none⟩) 1 1) 1 (bc ((0 : UInt8) :: packL (R.take 0)))) (own_row (cs := [.int .u8 0]) hr1 rfl (Nat.le_of_eq hg1.out.symm) (by decide))
                     have HB2 := Lib.hid hb1
                     clear hr1 hg1 hb1)
        go_loopw [5, 6] (fun x y wr => ∃ (k m1 c1 : Nat) (A1 : Option Addr), y = .int .i64 (k : Int) ∧ x = .slice A1 m1 c1 ∧ Hid (k ≤ K) ∧ Hid (m1 = 1 + (packL (R.take k)).length) ∧ Hid (wr.ownsRow wo.heap.size 5 1 (.slice A1 m1 c1) m1 (bc ((0 : UInt8) :: packL (R.take k)))) ∧ Hid (Below wo.heap.size wo wr)) (fun _ y _ => q - (intOf y).toNat)
        case atStart => exact ⟨0, 1, 1, some ⟨g1, 0, none⟩, rfl, rfl, Lib.hid (Nat.zero_le _), Lib.hid (by simp [packL]), HO2, HB2⟩
        case round =>
          clear HO2 HB2
          obtain ⟨k, m1, c1, A1, rfl, rfl, HKL, HM1, HO1, HBI⟩ := hrel
          rename World => wr
          by_cases hkq : k < q
          · have hki : (k : Int) < (q : Int) := by omega
            have hkw : IntKind.i64.wrap ((k : Int) + 1) = (k : Int) + 1 := by rw [IntKind.wrap_i64]; have := HQN.out; omega
            have hkx : k < R.length := by have := HQ.out; omega
            obtain ⟨ga, oa, rfl, hc⟩ := (HL.out.below (below_nxt HBI.out HB.out)).at_ hkx
            obtain ⟨x, hx⟩ : ∃ x, R[k] = x := ⟨_, rfl⟩
            rw [hx] at hc
            have HX := Lib.hid (p := R[k]? = some x) (by rw [List.getElem?_eq_getElem hkx, hx])
            have HR := Lib.hid (p := wr.rangeAt ga (oa + k * 5) (ecs x)) (fun j u hu => hc j u hu)
            obtain ⟨ia, ka, sa, hnice, hs200⟩ := HNR.out x (List.mem_of_getElem? HX.out)
            obtain ⟨z, hz⟩ : ∃ z, 16 + sa = z := ⟨_, rfl⟩
            have HPK := Lib.hid (fun w => rpack_any x ia ka sa hnice w)
            rw [hz] at HPK
            have hzl : z = (enb x).length := by rw [enb_len, hnice.nm]; exact hz.symm
            have HZL := Lib.hid hzl
            obtain ⟨t1, ht1⟩ : ∃ t, m1 + z = t := ⟨_, rfl⟩
            have hz300 : z ≤ 300 := by omega
            have hm300 : m1 ≤ 256 := by
              have h1 := HM1.out
              have h2 : (packL (R.take k)).length ≤ 255 := by
                by_cases hkK : k < K
                · have := HIN.out k x HX.out hkK
                  omega
                · have h3 : k = K := by have := HKL.out; omega
                  rw [h3]
                  exact HPL.out
              omega
            have a1 : IntKind.i64.wrap ((m1 : Int) + (z : Int)) = (t1 : Int) := by rw [IntKind.wrap_i64]; omega
            by_cases hkK : k < K
            · have hin := HIN.out k x HX.out hkK
              have a2 : (t1 : Int) ≤ 256 := by have := HM1.out; omega
              have HT := Lib.hid (p := m1 + z ≤ 256) (by omega)
              have HKK := Lib.hid hkK
              clear hc hx hkx hkq hnice hs200 hz hzl hin ht1 hkK hz300 hm300
              go_wp2_with (first
                | (refine step_load_gm (by rfl) 42 (.tmp 23) rfl ga (oa + k * 5) rfl (ecs x) _ HR.out Tryd.underlying42 rfl (info_ent x) ?_)
                | (refine wpList_load_mid rfl 42 (.tmp 33) rfl ga (oa + k * 5) rfl (ecs x) _ HR4.out Tryd.underlying42 rfl (info_ent x) ?_)
                | (go_at_call 27; refine (HPK.out wr).mono ?_; rintro e w4 ⟨A4, c4, rfl, ho, hb⟩
                   have HB4 := Lib.hid hb
                   have HR4 := Lib.hid (p := w4.rangeAt ga (oa + k * 5) (ecs x)) (fun j u hu => (hb.cell (p := ⟨ga, oa + k * 5 + j, none⟩) (World.block_lt_of_cell? wr _ (HR.out j u hu))).trans (HR.out j u hu))
                   have HPK2 := Lib.hid HPK.out
                   clear ho hb HPK)
                | (go_at_call 27; refine (HPK2.out w4).mono ?_; rintro e w5 ⟨A5, c5, rfl, ho, hb⟩
                   have HB5 := Lib.hid (below_nxt hb HB4.out)
                   have HO5 := Lib.hid (Hol.own ho)
                   have HE5 := Lib.hid (own_kept HO1.out HB5.out)
                   clear ho hb)
                | (at_builtin
                   refine wpList_app _ rfl _ _ 33 rfl 5 i8 U wo.heap.size (.slice A1 m1 c1) m1 (bc ((0 : UInt8) :: packL (R.take k))) rfl HE5.out A5 z c5 (enb x) rfl HZL.out HO5.out (by have := HT.out; omega) (by have := HBI.out.size; have := HB5.out.size; omega) ?_
                   intro v1 w6 ho1 hg1 hat1
                   have HO6 := Lib.hid ho1
                   obtain ⟨A6, c6, rfl⟩ := own_sl ho1
                   have HB6 := Lib.hid ((below_nxt HB5.out HBI.out).grown hg1 (below_nxt HB5.out HBI.out).size (fun k hk => (HE5.out.lt k hk).1))
                   clear ho1 hg1 hat1))
              go_roundw
              case rel => exact ⟨k + 1, m1 + z, c6, A6, by go_num, rfl, Lib.hid HKK.out, Lib.hid (by rw [packL_snoc HX.out, List.length_append, HM1.out, HZL.out]; omega), Lib.hid (by rw [packL_snoc HX.out, ← List.cons_append, bc_app]; exact HO6.out), HB6⟩
              case measure => have := HKK.out; have := HKP.out; simp [intOf]; omega
            · have hke : k = K := by have := HKL.out; omega
              obtain rfl := hke
              have hout := HOUT.out x HX.out
              have a2 : ¬ (t1 : Int) ≤ 256 := by have := HM1.out; omega
              clear hc hx hkx hkq hnice hs200 hz hzl hout ht1 hkK hz300 hm300
              go_upto_region 10 with (first
                | (refine step_load_gm (by rfl) 42 (.tmp 23) rfl ga (oa + k * 5) rfl (ecs x) _ HR.out Tryd.underlying42 rfl (info_ent x) ?_)
                | (go_at_call 27; refine (HPK.out wr).mono ?_; rintro e w4 ⟨A4, c4, rfl, ho, hb⟩
                   have HBx := Lib.hid (below_nxt hb HBI.out)
                   have HOx := Lib.hid (own_kept HO1.out hb)
                   clear ho hb))
              clear HR HPK HO1 HBI a1 a2
              obtain ⟨E, hE⟩ : ∃ E, packL (R.take k) = E := ⟨_, rfl⟩
              rw [hE] at HM1 HOx HLF HPL
              obtain ⟨gl, rfl, hgl, cl, fl, hset⟩ := own_first (by have h1 := HOx.out; rw [show bc ((0 : UInt8) :: E) = .int .u8 0 :: bc E from rfl] at h1; exact h1)
              have HSET := Lib.hid (hset (.int .u8 (k : Int)))
              have HGL := Lib.hid hgl
              have h0m : (0 : Int) < (m1 : Int) := by have := HM1.out; omega
              have h0m2 : 0 < m1 := by omega
              clear hset hgl
              go_wp2
              generalize hws : (w4).setCell ⟨gl, 0, none⟩ (.int .u8 (k : Int)) = ws at *
              have HOs := Lib.hid (p := ws.ownsRow wo.heap.size 5 1 (.slice (some ⟨gl, 0, none⟩) m1 c1) m1 (bc ((UInt8.ofNat k :: E) ++ List.replicate (m1 - m1) 0))) (by
                have h1 := HSET.out
                rw [Nat.sub_self, List.replicate_zero, List.append_nil, show bc (UInt8.ofNat k :: E) = .int .u8 ((UInt8.ofNat k).toNat : Int) :: bc E from rfl, u8_nat2 k (by have := HKP.out; have := HQN.out; omega)]
                exact h1)
              have HBs := Lib.hid (p := Below wo.heap.size wo ws) (by rw [← hws]; exact HBx.out.setCell HGL.out _)
              clear hws HSET HOx HBx cl fl uK h0m h0m2
              go_loopw [5] (fun x wr => ∃ (j c2 : Nat) (A2 : Option Addr), x = .slice A2 j c2 ∧ Hid (m1 ≤ j ∧ j ≤ 256) ∧ Hid (wr.ownsRow wo.heap.size 5 1 (.slice A2 j c2) j (bc ((UInt8.ofNat k :: E) ++ List.replicate (j - m1) 0))) ∧ Hid (Below wo.heap.size wo wr)) (fun x _ => 256 - slen x)
              case atStart => exact ⟨m1, c1, some ⟨gl, 0, none⟩, rfl, Lib.hid ⟨Nat.le_refl _, by have := HM1.out; have := HPL.out; omega⟩, HOs, HBs⟩
              case round =>
                clear HOs HBs
                obtain ⟨j, c2, A2, rfl, HJ, HO2, HB2⟩ := hrel
                rename World => wr2
                by_cases hj : j < 256
                · have hji : (j : Int) < 256 := by omega
                  have HJL := Lib.hid hj
                  clear hj
                  go_wp2_with (first
                    | (refine step_bsv rfl 33 5 _ rfl Tryd.underlying33 info_b1 _ zero_u8 (.int .u8 0) rfl rfl ?_; intro g3 w3 hr3 hg3 hb3
                       have HH3 := Lib.hid (one_hol hr3)
                       have HO3 := Lib.hid (own_kept HO2.out hb3)
                       have HB3 := Lib.hid (below_nxt hb3 HB2.out)
                       clear hr3 hg3 hb3)
                    | (at_builtin
                       refine wpList_app _ rfl _ _ 33 rfl 5 i8 U wo.heap.size (.slice A2 j c2) j (bc ((UInt8.ofNat k :: E) ++ List.replicate (j - m1) 0)) rfl HO3.out (some ⟨g3, 0, none⟩) 1 1 [(0 : UInt8)] rfl rfl HH3.out (by have := HJL.out; omega) HB3.out.size ?_
                       intro v1 w6 ho1 hg1 hat1
                       have HO6 := Lib.hid ho1
                       obtain ⟨A6, c6, rfl⟩ := own_sl ho1
                       have HB6 := Lib.hid (HB3.out.grown hg1 HB3.out.size (fun k hk => (HO3.out.lt k hk).1))
                       clear ho1 hg1 hat1))
                  go_roundw
                  case rel => exact ⟨j + 1, c6, A6, rfl, Lib.hid (by have := HJ.out; have := HJL.out; omega), Lib.hid (by have h1 := HO6.out; rw [← bc_app, pad_more] at h1; rw [show j + 1 - m1 = j - m1 + 1 by have := HJ.out; omega]; exact h1), HB6⟩
                  case measure => have := HJL.out; simp [slen]; omega
                · have hje : j = 256 := by have := HJ.out; omega
                  subst hje
                  have hji : ¬ ((256 : Nat) : Int) < 256 := by omega
                  have HO7 := Lib.hid (p := Own8 wo.heap.size wr2 ⟨A2, c2, lf⟩) (by
                    have h1 := HO2.out
                    have h2 : (UInt8.ofNat k :: E) ++ List.replicate (256 - m1) 0 = lf := by
                      rw [← HLF.out, show m1 = E.length + 1 by have := HM1.out; omega]
                      exact pad_eq _ E E.length rfl HPL.out
                    rw [h2] at h1
                    unfold Own8
                    rw [HBV.out, HLL.out]
                    exact h1)
                  have HOB7 := Lib.hid (HO.out.below HB2.out)
                  have HBW7 := Lib.hid (below_nxt HB2.out HB.out)
                  clear hj HO2
                  go_wp2_with (first
                    | (refine step_bsv rfl 25 33 _ rfl Tryd.underlying25 info_sl _ zero_sl (.slice A2 256 c2) rfl rfl ?_; intro g3 w3 hr3 hg3 hb3
                       have HR3 := Lib.hid hr3
                       have HO3 := Lib.hid (p := Own8 w.heap.size w3 ⟨A2, c2, lf⟩) ((HO7.out.below hb3).lower HB.out.size)
                       have HOB3 := Lib.hid (HOB7.out.below hb3)
                       have HB3 := Lib.hid (below_nxt hb3 HBW7.out)
                       clear hr3 hg3 hb3)
                    | (at_builtin
                       refine wp_join rfl _ _ rfl rec_sl w.heap.size (.slice A' m c') m (P.flatMap sc) rfl HOB3.out.1 (some ⟨g3, 0, none⟩) 1 1 (sc ⟨A2, c2, lf⟩) rfl rfl (.inr ⟨_, rfl, fun j u hu => by rw [Addr.add_lit]; unfold sc at hu; rw [HBV.out] at hu; exact HR3.out.all j u hu⟩) (sc_one _) (by have := HMN.out; have := HN32.out; omega) HB3.out.size ?_
                       intro v1 w4 ho1 hg1 hat1
                       have HG4 := Lib.hid hg1
                       have HO4 := Lib.hid ho1
                       obtain ⟨A9, c9, rfl⟩ := own_sl ho1
                       have HB4 := Lib.hid (HB3.out.grown hg1 HB3.out.size (fun k hk => (HOB3.out.1.lt k hk).1))
                       clear ho1 hg1 hat1))
                  go_roundw
                  case rel =>
                    refine ⟨i + k, q - k, d', f', m + 1, c9, B', A9, P ++ [⟨A2, c2, lf⟩], rfl, rfl, Lib.hid (HCUT.out _ HL.out), HQ2, HD2, Lib.hid ⟨by rw [flat_snoc]; exact HO4.out, by rw [List.length_append, HOB3.out.2.1]; rfl, fun x hx => ?_⟩, Lib.hid (HV2.out _ rfl), HF2, Lib.hid (by have := HMN.out; have := HKP.out; omega), HB4⟩
                    rcases List.mem_append.1 hx with hx | hx
                    · exact own8_grow (by decide) HOB3.out.1 (HOB3.out.2.2 x hx) HG4.out
                    · rw [List.mem_singleton] at hx
                      subst hx
                      exact own8_grow (by decide) HOB3.out.1 HO3.out HG4.out
                  case measure => have := HKP.out; simp [slen]; omega
          · have hke : k = K := by have := HKL.out; have := HKP.out; omega
            obtain rfl := hke
            have hki : ¬ (k : Int) < (q : Int) := by omega
            have HBx := HBI
            have HOx := HO1
            clear hkq
            go_upto_region 10 with (fail)
            clear HO1 HBI
            obtain ⟨E, hE⟩ : ∃ E, packL (R.take k) = E := ⟨_, rfl⟩
            rw [hE] at HM1 HOx HLF HPL
            obtain ⟨gl, rfl, hgl, cl, fl, hset⟩ := own_first (by have h1 := HOx.out; rw [show bc ((0 : UInt8) :: E) = .int .u8 0 :: bc E from rfl] at h1; exact h1)
            have HSET := Lib.hid (hset (.int .u8 (k : Int)))
            have HGL := Lib.hid hgl
            have h0m : (0 : Int) < (m1 : Int) := by have := HM1.out; omega
            have h0m2 : 0 < m1 := by omega
            clear hset hgl
            go_wp2
            generalize hws : (wr).setCell ⟨gl, 0, none⟩ (.int .u8 (k : Int)) = ws at *
            have HOs := Lib.hid (p := ws.ownsRow wo.heap.size 5 1 (.slice (some ⟨gl, 0, none⟩) m1 c1) m1 (bc ((UInt8.ofNat k :: E) ++ List.replicate (m1 - m1) 0))) (by
              have h1 := HSET.out
              rw [Nat.sub_self, List.replicate_zero, List.append_nil, show bc (UInt8.ofNat k :: E) = .int .u8 ((UInt8.ofNat k).toNat : Int) :: bc E from rfl, u8_nat2 k (by have := HKP.out; have := HQN.out; omega)]
              exact h1)
            have HBs := Lib.hid (p := Below wo.heap.size wo ws) (by rw [← hws]; exact HBx.out.setCell HGL.out _)
            clear hws HSET HOx HBx cl fl uK h0m h0m2
            go_loopw [5] (fun x wr => ∃ (j c2 : Nat) (A2 : Option Addr), x = .slice A2 j c2 ∧ Hid (m1 ≤ j ∧ j ≤ 256) ∧ Hid (wr.ownsRow wo.heap.size 5 1 (.slice A2 j c2) j (bc ((UInt8.ofNat k :: E) ++ List.replicate (j - m1) 0))) ∧ Hid (Below wo.heap.size wo wr)) (fun x _ => 256 - slen x)
            case atStart => exact ⟨m1, c1, some ⟨gl, 0, none⟩, rfl, Lib.hid ⟨Nat.le_refl _, by have := HM1.out; have := HPL.out; omega⟩, HOs, HBs⟩
            case round =>
              clear HOs HBs
              obtain ⟨j, c2, A2, rfl, HJ, HO2, HB2⟩ := hrel
              rename World => wr2
              by_cases hj : j < 256
              · have hji : (j : Int) < 256 := by omega
                have HJL := Lib.hid hj
                clear hj
                go_wp2_with (first
                  | (refine step_bsv rfl 33 5 _ rfl Tryd.underlying33 info_b1 _ zero_u8 (.int .u8 0) rfl rfl ?_; intro g3 w3 hr3 hg3 hb3
                     have HH3 := Lib.hid (one_hol hr3)
                     have HO3 := Lib.hid (own_kept HO2.out hb3)
                     have HB3 := Lib.hid (below_nxt hb3 HB2.out)
                     clear hr3 hg3 hb3)
                  | (at_builtin
                     refine wpList_app _ rfl _ _ 33 rfl 5 i8 U wo.heap.size (.slice A2 j c2) j (bc ((UInt8.ofNat k :: E) ++ List.replicate (j - m1) 0)) rfl HO3.out (some ⟨g3, 0, none⟩) 1 1 [(0 : UInt8)] rfl rfl HH3.out (by have := HJL.out; omega) HB3.out.size ?_
                     intro v1 w6 ho1 hg1 hat1
                     have HO6 := Lib.hid ho1
                     obtain ⟨A6, c6, rfl⟩ := own_sl ho1
                     have HB6 := Lib.hid (HB3.out.grown hg1 HB3.out.size (fun k hk => (HO3.out.lt k hk).1))
                     clear ho1 hg1 hat1))
                go_roundw
                case rel => exact ⟨j + 1, c6, A6, rfl, Lib.hid (by have := HJ.out; have := HJL.out; omega), Lib.hid (by have h1 := HO6.out; rw [← bc_app, pad_more] at h1; rw [show j + 1 - m1 = j - m1 + 1 by have := HJ.out; omega]; exact h1), HB6⟩
                case measure => have := HJL.out; simp [slen]; omega
              · have hje : j = 256 := by have := HJ.out; omega
                subst hje
                have hji : ¬ ((256 : Nat) : Int) < 256 := by omega
                have HO7 := Lib.hid (p := Own8 wo.heap.size wr2 ⟨A2, c2, lf⟩) (by
                  have h1 := HO2.out
                  have h2 : (UInt8.ofNat k :: E) ++ List.replicate (256 - m1) 0 = lf := by
                    rw [← HLF.out, show m1 = E.length + 1 by have := HM1.out; omega]
                    exact pad_eq _ E E.length rfl HPL.out
                  rw [h2] at h1
                  unfold Own8
                  rw [HBV.out, HLL.out]
                  exact h1)
                have HOB7 := Lib.hid (HO.out.below HB2.out)
                have HBW7 := Lib.hid (below_nxt HB2.out HB.out)
                clear hj HO2
                go_wp2_with (first
                  | (refine step_bsv rfl 25 33 _ rfl Tryd.underlying25 info_sl _ zero_sl (.slice A2 256 c2) rfl rfl ?_; intro g3 w3 hr3 hg3 hb3
                     have HR3 := Lib.hid hr3
                     have HO3 := Lib.hid (p := Own8 w.heap.size w3 ⟨A2, c2, lf⟩) ((HO7.out.below hb3).lower HB.out.size)
                     have HOB3 := Lib.hid (HOB7.out.below hb3)
                     have HB3 := Lib.hid (below_nxt hb3 HBW7.out)
                     clear hr3 hg3 hb3)
                  | (at_builtin
                     refine wp_join rfl _ _ rfl rec_sl w.heap.size (.slice A' m c') m (P.flatMap sc) rfl HOB3.out.1 (some ⟨g3, 0, none⟩) 1 1 (sc ⟨A2, c2, lf⟩) rfl rfl (.inr ⟨_, rfl, fun j u hu => by rw [Addr.add_lit]; unfold sc at hu; rw [HBV.out] at hu; exact HR3.out.all j u hu⟩) (sc_one _) (by have := HMN.out; have := HN32.out; omega) HB3.out.size ?_
                     intro v1 w4 ho1 hg1 hat1
                     have HG4 := Lib.hid hg1
                     have HO4 := Lib.hid ho1
                     obtain ⟨A9, c9, rfl⟩ := own_sl ho1
                     have HB4 := Lib.hid (HB3.out.grown hg1 HB3.out.size (fun k hk => (HOB3.out.1.lt k hk).1))
                     clear ho1 hg1 hat1))
                go_roundw
                case rel =>
                  refine ⟨i + k, q - k, d', f', m + 1, c9, B', A9, P ++ [⟨A2, c2, lf⟩], rfl, rfl, Lib.hid (HCUT.out _ HL.out), HQ2, HD2, Lib.hid ⟨by rw [flat_snoc]; exact HO4.out, by rw [List.length_append, HOB3.out.2.1]; rfl, fun x hx => ?_⟩, Lib.hid (HV2.out _ rfl), HF2, Lib.hid (by have := HMN.out; have := HKP.out; omega), HB4⟩
                  rcases List.mem_append.1 hx with hx | hx
                  · exact own8_grow (by decide) HOB3.out.1 (HOB3.out.2.2 x hx) HG4.out
                  · rw [List.mem_singleton] at hx
                    subst hx
                    exact own8_grow (by decide) HOB3.out.1 HO3.out HG4.out
                case measure => have := HKP.out; simp [slen]; omega
      · have hq0 : q = 0 := by omega
        have hqi : ¬ (0 : Int) < (q : Int) := by omega
        have HV2 := Lib.hid (p := P.map (·.l) = leaves X) (by
          have h1 := HV.out
          have h2 : X.drop i = [] := List.eq_nil_of_length_eq_zero (by rw [HQ.out, hq0])
          rw [h2, leavesN_nil, List.append_nil] at h1
          exact h1)
        clear hq hq0 HV
        go_wp2
        go_ret2
        exact ⟨A', m, c', P, rfl, HO.out, HV2.out, by have := HMN.out; have := HN32.out; omega, HB.out⟩
  · have e1 : lvL X = [] := by unfold lvL; rw [if_neg hmay]
    have e2 : lvE X = 201 := by unfold lvE; rw [if_neg hmay]
    rw [e1, e2]
    have HM2 := Lib.hid (fun w h => (HM.out w h).mono (R' := fun e w' => e = .returned (.bool false) ∧ Below w.heap.size w w') (by
      rintro e w' ⟨⟨z, rfl, hz⟩, hb⟩
      cases z
      · exact ⟨rfl, hb⟩
      · exact absurd (hz.1 rfl) hmay))
    clear HM h hmay e1 e2 hmax hn hcap hnm hw
    go_enter Tryd.func12, Tryd.ntmps12
    go_wp2_with (go_at_call 19; refine (HM2.out _ H.out).mono ?_; rintro e w1 ⟨rfl, hb⟩
                 have HB1 := Lib.hid hb
                 clear hb)
    go_ret2
    exact ⟨none, 0, 0, [], rfl, OwnBs.nil _ _, rfl, by omega, HB1.out⟩
end Go.Proofs.YtijffkklhgnknaaDoor
