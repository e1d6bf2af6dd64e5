/- Package dir: a list's leaves. Conditions: no more than a million entries, names no longer than 2^32, the library's tables lie there. -/
import Derived.Test.YtijffkklhgnknaaDoorRe
import Derived.Test.YtijffkklhgnknaaDoorRb
set_option linter.unusedVariables false
set_option maxRecDepth 20000
namespace Go.Proofs.YtijffkklhgnknaaDoor
open Go.RowKit

/-- A slice of entries, cut at its head. -/
theorem cut_ent (A : Option Addr) (c q n : Nat) (hn : n ≤ q) (hc : q ≤ c) :
    ∃ A' c', (∀ W : World, (Instr.slice 22 (.slice A q c) (some (.int .i64 n)) none none).run Tryd.prog W = .ok (.slice A' (q - n) c') W) ∧ q - n ≤ c' ∧ ∀ (W : World) (X : List Ent), X.length = q → Lies ecs 5 W A X → Lies ecs 5 W A' (X.drop n) := by
  refine ⟨if c = n then A else A.map (·.add (n * 5)), c - n, fun W => ?_, by omega, fun W X hX h => ?_⟩
  · have h1 : (0 : Int) ≤ (n : Int) := by omega
    have h2 : (n : Int) ≤ (q : Int) := by omega
    rw [run_slice_l (P := Tryd.prog) W 22 A q c (by kernel_rfl) .i64 n h1 h2]
    have hs : (sizeOf (Tryd.prog.elem 22)).run Tryd.prog W = .ok 5 W := by kernel_rfl
    rw [hs]
    simp [Result.andThen, sliced]
  · by_cases hl : X.length ≤ n
    · exact .inl (List.drop_eq_nil_of_le hl)
    · rw [if_neg (by omega)]
      rcases h with rfl | ⟨g, o, rfl, h⟩
      · exact .inl (by simp)
      · refine .inr ⟨g, o + n * 5, ?_, fun j x hx i u hu => ?_⟩
        · show some ((⟨g, o, none⟩ : Addr).add (n * 5)) = _
          unfold Addr.add
          split <;> simp_all
        · rw [List.getElem?_drop] at hx
          have := h (n + j) x hx i u hu
          rwa [show o + (n + j) * 5 + i = o + n * 5 + j * 5 + i by omega] at this
/-- A slice built of one value of one cell. -/
theorem run_bsv {P : Program} (t e : TypeId) (hu : P.underlying t = some (.slice e)) (hs : (P.info? e).map (·.size) = some 1) (z : Value) (hz : ∀ w, (zeroValue e).run P w = .ok z w) (v : Value) (hv : v.cells = #[v]) (w : World) :
    (Instr.buildSlice t 1 #[(0, v)]).run P w = .ok (.slice (some ⟨w.heap.size, 0, none⟩) 1 1) (w.alloc (.cells [v].toArray e)) := by
  have hfill : ∀ zs : Array Value, zs.size = 1 → Instr.fill (fun i => some (i * 1, 1)) zs [(0, v)] = some [v].toArray := fun zs hzs => by
    have h := fill_part (place := fun i => some (i * 1, 1)) (A := []) (old := zs.toList) (B := []) (vs := [v]) (i := 0) (off := 0) (n := 1) (v := v) (rest := []) (by simp) (by simpa using hv) rfl rfl (by simpa using hzs)
    simp only [List.append_nil, List.nil_append, Array.toArray_toList] at h
    rw [h]
    rfl
  cases hq : P.info? e with
  | none => simp [hq] at hs
  | some i =>
    have hi : i.size = 1 := by simpa [hq] using hs
    have hf := hfill ((Array.range 1).map (z.cells[· % z.cells.size]!)) (by simp)
    have hsz : ∀ w : World, (sizeOf e).run P w = .ok 1 w := size_of hs
    have h1 : ¬ (2 ^ 24 < 1) := by decide
    clear hq hi
    unfold Instr.buildSlice
    simp only [Sem.run_bind, run_underlying hu, Result.andThen_ok, hsz, Nat.one_mul, gt_iff_lt, h1, if_false, Sem.run_pure, hz, Sem.run_ite, Nat.one_ne_zero]
    rw [hf]
    simp [newRow, go_sem]
theorem step_bsv {P : Program} {ops : Array Oper} {rest : List Oper} {o : Oper} {a : Act} {w : World} {Q : Exit → Act → World → Prop} (hgd : o.guard = none) (t e : TypeId) (x : Operand) (ho : o.op = .buildSlice t 1 #[(0, x)]) (hu : P.underlying t = some (.slice e)) (hs : (P.info? e).map (·.size) = some 1) (z : Value) (hz : ∀ w, (zeroValue e).run P w = .ok z w) (v : Value) (hv : v.cells = #[v]) (hx : a.eval x = v)
    (h : ∀ g w', Row w' g e [v] → Hid (g = w.heap.size) → Below w.heap.size w w' → wpList P ops Q rest (a.put o.dst (.slice (some ⟨g, 0, none⟩) 1 1)) w') : wpList P ops Q (o :: rest) a w := by
  refine wpList_plain hgd fun K hK => ?_
  have hr := run_bsv t e hu hs z hz v hv w
  unfold Oper.wp execOp
  simp only [ho, hx, List.map_toArray, List.map_cons, List.map_nil, Sem.run_bind, hr, Result.andThen_ok]
  exact hK _ _ (h _ _ (Row.made w e [v]) (show _ = _ from rfl) ((Below.refl _ _).alloc (Nat.le_refl _) _))
theorem own8_grow {B b : Nat} {w w' : World} {A : Option Addr} {n c k : Nat} {e : TypeId} {xs : List Value} {x : BV} (he : 5 ≠ e) (hown : w.ownsRow B e k (.slice A n c) n xs) (h : Own8 b w x) (hg : w.grownBy w' (Value.slice A n c).ownBlock) : Own8 b w' x :=
  World.ownsRow.kept h hg (own_parted h hown he)
theorem own_cap {w : World} {base : Nat} {e : TypeId} {A : Option Addr} {s n cap : Nat} {xs : List Value} (h : w.ownsRow base e s (.slice A n cap) n xs) : n ≤ cap := by
  rcases h.2 with ⟨h', h0⟩ | ⟨g', cap', cur, h', _, _, hnc, _⟩
  · omega
  · simp only [Value.slice.injEq] at h'
    omega
theorem zero_sl (w : World) : (zeroValue 33).run Tryd.prog w = .ok (.slice none 0 0) w := by kernel_rfl
theorem info_sl : (Tryd.prog.info? 33).map (·.size) = some 1 := by kernel_rfl
theorem niceL_may {X : List Ent} (h : MayL X) (hc : ∀ e ∈ X, e.ser < 18446744073709551616 ∧ e.ck < 4294967296) : NiceL X := fun e he => by
  obtain ⟨h1, h2, h3, h4, h5, _⟩ := h.2.1 e he
  obtain ⟨hs, hk⟩ := hc e he
  have hl : e.nm.data.toList.length ≤ 32 := by
    unfold nameR at h1
    split at h1
    · cases h1
    · split at h1
      · split at h1
        · cases h1
        · omega
      · cases h1
  exact ⟨e.ino.toNat, e.kind.toNat, e.nm.data.toList.length, ⟨by omega, by omega, by omega, by omega, hs, hk, rfl, by omega⟩, by omega⟩
/-- Numbers as Go has them. -/
def Wide (X : List Ent) : Prop := ∀ e ∈ X, e.ser < 18446744073709551616 ∧ e.ck < 4294967296
theorem niceL_enb {X : List Ent} (h : NiceL X) : ∀ x ∈ X, (enb x).length ≤ 255 := fun x hx => by
  obtain ⟨i, k, s, hn, hs⟩ := h x hx
  rw [enb_len, hn.nm]
  omega
def slen : Value → Nat
  | .slice _ n _ => n
  | _ => 0
open Classical in
/-- What Leaves answers. -/
noncomputable def lvL (X : List Ent) : List (List UInt8) := if MayL X then leaves X else []
open Classical in
noncomputable def lvE (X : List Ent) : Int := if MayL X then 0 else 201
/-- Rows of bytes of the call's own. -/
def OwnBs (b : Nat) (w : World) (A : Option Addr) (m c : Nat) (P : List BV) : Prop :=
  w.ownsRow b 33 1 (.slice A m c) m (P.flatMap sc) ∧ P.length = m ∧ ∀ x ∈ P, Own8 b w x
theorem OwnBs.nil (b : Nat) (w : World) : OwnBs b w none 0 0 [] := ⟨World.ownsRow_nil _ _ _ _, rfl, fun x hx => by cases hx⟩
theorem OwnBs.below {b : Nat} {w w' : World} {A : Option Addr} {m c : Nat} {P : List BV} (h : OwnBs b w A m c P) (hb : Below w.heap.size w w') : OwnBs b w' A m c P :=
  ⟨own_kept h.1 hb, h.2.1, fun x hx => (h.2.2 x hx).below hb⟩
theorem OwnBs.lower {b b' : Nat} {w : World} {A : Option Addr} {m c : Nat} {P : List BV} (h : OwnBs b w A m c P) (hb : b' ≤ b) : OwnBs b' w A m c P :=
  ⟨own_lower h.1 hb, h.2.1, fun x hx => (h.2.2 x hx).lower hb⟩
def LvP (w : World) (L : List (List UInt8)) (er : Int) (e : Ending) (w' : World) : Prop :=
  ∃ A m c P, e = .returned (.tuple #[.slice A m c, .int .i64 er]) ∧ OwnBs w.heap.size w' A m c P ∧ P.map (·.l) = L ∧ m ≤ 32 ∧ Below w.heap.size w w'
set_option maxHeartbeats 4000000 in
theorem leaves_any (A : Option Addr) (n c : Nat) (X : List Ent) (hmax : n ≤ 1000000) (w : World) (h : Lies ecs 5 w A X) (hn : X.length = n) (hcap : n ≤ c) (hnm : ∀ e ∈ X, e.nm.size ≤ 4294967296) (hw : Wide X) (hT : Tabs w) : Calls Tryd.prog 11 #[.slice A n c] w (LvP w (lvL X) (lvE X)) := by
  have HM := Lib.hid (fun w h hT => maybe_dir A n c X hmax w h hn hnm hT)
  have H := Lib.hid h
  have HT := Lib.hid hT
  by_cases hmay : MayL X
  · have e1 : lvL X = leaves X := by unfold lvL; rw [if_pos hmay]
    have e2 : lvE X = 0 := by unfold lvE; rw [if_pos hmay]
    rw [e1, e2]
    have HNI := Lib.hid (niceL_may hmay hw)
    have HN := Lib.hid (And.intro hmax hn)
    have HC := Lib.hid hcap
    have HM2 := Lib.hid (fun w h hT => (HM.out w h hT).mono (R' := fun e w' => e = .returned (.bool true) ∧ Below w.heap.size w w') (by
      rintro e w' ⟨⟨z, rfl, hz⟩, hb⟩
      rw [hz.2 hmay]
      exact ⟨rfl, hb⟩))
    have HN32 := Lib.hid (p := n ≤ 32) (by have := hmay.1; omega)
    clear HM h hT hmay e1 e2 hmax hn hcap hnm hw
    go_enter Tryd.func11, Tryd.ntmps11
    go_wp2_with (go_at_call 25; refine (HM2.out _ H.out HT.out).mono ?_; rintro e w1 ⟨rfl, hb⟩
                 have HB1 := Lib.hid hb
                 clear hb)
    go_loopw [0, 4] (fun x y wr => ∃ (i q d f m c' : Nat) (B A' : Option Addr) (P : List BV), x = .slice B q d ∧ y = .slice A' m c' ∧ Hid (Lies ecs 5 w B (X.drop i)) ∧ Hid ((X.drop i).length = q) ∧ Hid (q ≤ d) ∧ Hid (OwnBs w.heap.size wr A' m c' P) ∧ Hid (P.map (·.l) ++ leavesN f (X.drop i) = leaves X) ∧ Hid (q ≤ f) ∧ Hid (m + q ≤ n) ∧ Hid (Below w.heap.size w wr)) (fun x _ _ => slen x)
    case atStart => exact ⟨0, n, c, n, 0, 0, A, none, [], rfl, rfl, H, Lib.hid HN.out.2, HC, Lib.hid (OwnBs.nil _ _), Lib.hid (by simp only [List.map_nil, List.nil_append, List.drop_zero]; unfold leaves; rw [HN.out.2]), Lib.hid (Nat.le_refl _), Lib.hid (by omega), HB1⟩
    case round =>
      obtain ⟨i, q, d, f, m, c', B, A', P, rfl, rfl, HL, HQ, HD, HO, HV, HF, HMN, HB⟩ := hrel
      rename World => wr
      by_cases hq : 0 < q
      · have hqi : (0 : Int) < (q : Int) := by omega
        obtain ⟨R, hR⟩ : ∃ R, X.drop i = R := ⟨_, rfl⟩
        rw [hR] at HL HQ HV
        have hNR : NiceL R := fun e he => HNI.out e (by rw [← hR] at he; exact List.mem_of_mem_drop he)
        have hRne : R ≠ [] := fun h0 => by have := HQ.out; rw [h0] at this; simp at this; omega
        have HLF := Lib.hid (fun w h => leaf_any B q d R (by have := HMN.out; have := HN.out; omega) w h HQ.out hNR)
        obtain ⟨f', hf', hf2⟩ := leavesN_step hRne (by rw [HQ.out]; exact HF.out) (niceL_enb hNR)
        have hp := fitL_pos hRne (niceL_enb hNR)
        have hle := fitL_le R 255
        unfold LeafP at HLF
        obtain ⟨K, hK⟩ : ∃ K, fitL 255 R = K := ⟨_, rfl⟩
        rw [hK] at hf' hf2 hp hle HLF
        obtain ⟨lf, hlf⟩ : ∃ lf, leafB R = lf := ⟨_, rfl⟩
        have hlf2 : lf.length = 256 := by rw [← hlf]; exact leafB_len R
        rw [hlf] at hf' HLF
        have hKq : K ≤ q := by have := HQ.out; omega
        obtain ⟨B', d', hrun, hd', hcut⟩ := cut_ent B d q K hKq HD.out
        have HV2 := Lib.hid (p := ∀ bv : BV, bv.l = lf → (P ++ [bv]).map (·.l) ++ leavesN f' (X.drop (i + K)) = leaves X) (fun bv hbv => by
          rw [← HV.out, hf', ← hR, List.drop_drop, List.map_append, List.append_assoc]
          simp [hbv])
        have HQ2 := Lib.hid (p := (X.drop (i + K)).length = q - K) (by rw [← List.drop_drop, hR, List.length_drop, HQ.out])
        have HF2 := Lib.hid (p := q - K ≤ f') (by rw [List.length_drop, HQ.out] at hf2; exact hf2)
        have HCUT := Lib.hid (p := ∀ W : World, Lies ecs 5 W B R → Lies ecs 5 W B' (X.drop (i + K))) (fun W h => by have := hcut W R HQ.out h; rwa [← hR, List.drop_drop] at this)
        have HD2 := Lib.hid hd'
        have HKP := Lib.hid (And.intro hp hKq)
        have HBV := Lib.hid (p := ∀ (A1 : Option Addr) (c1 : Nat), bvv ⟨A1, c1, lf⟩ = .slice A1 256 c1) (fun A1 c1 => by unfold bvv; rw [hlf2])
        have HLL := Lib.hid hlf2
        clear hR hNR hRne hf' hf2 hp hle hK hlf hlf2 hKq hd' hcut hq HV HF
        go_wp2_with (first
          | (go_at_call 26; refine (HLF.out _ (HL.out.below HB.out)).mono ?_; rintro e w2 ⟨A1, c1, rfl, ho, hb⟩
             have HO2 := Lib.hid (p := Own8 w.heap.size w2 ⟨A1, c1, lf⟩) (by unfold Own8; rw [HBV.out, HLL.out]; exact own_lower ho HB.out.size)
             have HOB2 := Lib.hid (HO.out.below hb)
             have HB2 := Lib.hid (below_nxt hb HB.out)
             clear ho hb)
          | (refine step_bsv rfl 25 33 _ rfl Tryd.underlying25 info_sl _ zero_sl (.slice A1 256 c1) rfl rfl ?_; intro g3 w3 hr3 hg3 hb3
             have HR3 := Lib.hid hr3
             have HO3 := Lib.hid (HO2.out.below hb3)
             have HOB3 := Lib.hid (HOB2.out.below hb3)
             have HB3 := Lib.hid (below_nxt hb3 HB2.out)
             clear hr3 hg3 hb3)
          | (at_builtin
             refine wp_join rfl _ _ rfl rec_sl w.heap.size (.slice A' m c') m (P.flatMap sc) rfl HOB3.out.1 (some ⟨g3, 0, none⟩) 1 1 (sc ⟨A1, c1, lf⟩) rfl rfl (.inr ⟨_, rfl, fun j u hu => by rw [Addr.add_lit]; unfold sc at hu; rw [HBV.out] at hu; exact HR3.out.all j u hu⟩) (sc_one _) (by have := HMN.out; have := HN32.out; omega) HB3.out.size ?_
             intro v1 w4 ho1 hg1 hat1
             have HG4 := Lib.hid hg1
             have HO4 := Lib.hid ho1
             obtain ⟨A2, c2, rfl⟩ := own_sl ho1
             have HB4 := Lib.hid (HB3.out.grown hg1 HB3.out.size (fun k hk => (HOB3.out.1.lt k hk).1))
             clear ho1 hg1 hat1))
        go_roundw
        case rel =>
          refine ⟨i + K, q - K, d', f', m + 1, c2, B', A2, P ++ [⟨A1, c1, lf⟩], rfl, rfl, Lib.hid (HCUT.out _ HL.out), HQ2, HD2, Lib.hid ⟨by rw [flat_snoc]; exact HO4.out, by rw [List.length_append, HOB3.out.2.1]; rfl, fun x hx => ?_⟩, Lib.hid (HV2.out _ rfl), HF2, Lib.hid (by have := HMN.out; have := HKP.out; omega), HB4⟩
          rcases List.mem_append.1 hx with hx | hx
          · exact own8_grow (by decide) HOB3.out.1 (HOB3.out.2.2 x hx) HG4.out
          · rw [List.mem_singleton] at hx
            subst hx
            exact own8_grow (by decide) HOB3.out.1 HO3.out HG4.out
        case measure => have := HKP.out; simp [slen]; omega
      · have hq0 : q = 0 := by omega
        have hqi : ¬ (0 : Int) < (q : Int) := by omega
        have HV2 := Lib.hid (p := P.map (·.l) = leaves X) (by
          have h1 := HV.out
          have h2 : X.drop i = [] := List.eq_nil_of_length_eq_zero (by rw [HQ.out, hq0])
          rw [h2, leavesN_nil, List.append_nil] at h1
          exact h1)
        clear hq hq0 HV
        go_wp2
        go_ret2
        exact ⟨A', m, c', P, rfl, HO.out, HV2.out, by have := HMN.out; have := HN32.out; omega, HB.out⟩
  · have e1 : lvL X = [] := by unfold lvL; rw [if_neg hmay]
    have e2 : lvE X = 201 := by unfold lvE; rw [if_neg hmay]
    rw [e1, e2]
    have HM2 := Lib.hid (fun w h hT => (HM.out w h hT).mono (R' := fun e w' => e = .returned (.bool false) ∧ Below w.heap.size w w') (by
      rintro e w' ⟨⟨z, rfl, hz⟩, hb⟩
      cases z
      · exact ⟨rfl, hb⟩
      · exact absurd (hz.1 rfl) hmay))
    clear HM h hT hmay e1 e2 hmax hn hcap hnm hw
    go_enter Tryd.func11, Tryd.ntmps11
    go_wp2_with (go_at_call 25; refine (HM2.out _ H.out HT.out).mono ?_; rintro e w1 ⟨rfl, hb⟩
                 have HB1 := Lib.hid hb
                 clear hb)
    go_ret2
    exact ⟨none, 0, 0, [], rfl, OwnBs.nil _ _, rfl, by omega, HB1.out⟩
end Go.Proofs.YtijffkklhgnknaaDoor
