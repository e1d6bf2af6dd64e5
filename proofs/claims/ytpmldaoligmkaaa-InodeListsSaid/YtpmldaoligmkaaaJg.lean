/- The reference's block of a list, and list of a block. Conditions: those named. -/
import Derived.Test.YtpmldaoligmkaaaJe
import Derived.Test.YtpmldaoligmkaaaIh
import Derived.Test.YtpmldaoligmkaaaJc
set_option linter.unusedVariables false
set_option maxRecDepth 20000
namespace Go.Proofs.Ytpmldaoligmkaaa
open Go.RowKit

section
variable {P : Program} {ops : Array Oper} {rest : List Oper} {o : Oper} {a : Act} {w : World} {Q : Exit → Act → World → Prop}
theorem step_cut1 (hgd : o.guard = none) (t : TypeId) (x y : Operand) (ho : o.op = .slice t x (some y) none none) (g off n c l m cc : Nat) (zl : Int) (hx : a.eval x = .slice (some ⟨g, off, none⟩) n c) (hy : a.eval y = .int .i64 zl) (hzl : zl = (l : Int)) (hln : l ≤ n) (hlc : l < c) (hm : n - l = m) (hcc : c - l = cc)
    (hu : P.underlying t = some (.slice (P.elem t))) (hs : (P.info? (P.elem t)).map (·.size) = some 1) (hK : wpList P ops Q rest (a.put o.dst (.slice (some ⟨g, off + l, none⟩) m cc)) w) : wpList P ops Q (o :: rest) a w := by
  subst hzl hm hcc
  refine wpList_plain hgd fun K hK' => ?_
  have hr : (Instr.sliceAt t (.slice (some ⟨g, off, none⟩) n c) (some (.int .i64 (l : Int))) none none).run P w = .ok (.slice (some ⟨g, off + l, none⟩) (n - l) (c - l)) w := by
    rw [run_sliceAt_slice w _ _ _ _ _ hu, run_slice_l w _ _ _ _ hu .i64 _ (by omega) (by omega), size_of hs]
    have h1 : ¬ c = l := by omega
    simp only [Result.andThen_ok, sliced, Int.toNat_natCast, Nat.mul_one, if_neg h1, Option.map_some, Addr.add_lit]
  unfold Oper.wp execOp
  simp only [ho, hx, hy, Option.map_some, Option.map_none, Sem.run_bind, hr, Result.andThen_ok]
  exact hK' _ _ hK
end
def s2v (k : Nat) : Value := .int .i64 ((s2 k : Nat) : Int)
theorem OV.farL {w : World} {B : Nat} {e : TypeId} {A : Option Addr} {n c : Nat} {f : Nat → Value} {g : Nat} {cs : List Value} (hr : Row w g 37 cs) (h : OV B w e A n c f) (he : e ≠ 37) : some g ≠ (Value.slice A n c).ownBlock := by
  intro eq
  rcases h.2 with ⟨h0, _⟩ | ⟨g', cap, cur, h1, _, hgg, _⟩
  · rw [h0] at eq
    simp [Value.ownBlock] at eq
  · rw [h1] at eq
    simp [Value.ownBlock] at eq
    subst eq
    unfold Row at hr
    rw [hr] at hgg
    injection hgg with hgg
    injection hgg with _ ht
    exact he ht.symm
/-- What PackList leaves. -/
def PLR (f : Nat → Int) (W w' : World) (e : Ending) : Prop := (slotB f 112 = false ∧ e = .returned (.tuple #[.slice none 0 0, .int .i64 201])) ∨ (slotB f 112 = true ∧ ∃ A c, e = .returned (.tuple #[.slice A 256 c, .int .i64 0]) ∧ Hid (w'.ownsRow W.heap.size 5 1 (.slice A 256 c) 256 (bc (blk s2 f 112))))
set_option maxHeartbeats 2000000 in
theorem rpacklist_any (f : Nat → Int) (w : World) : Calls Try.prog 16 #[.agg (inl 112 f).toArray] w fun e w' => PLR f w w' e ∧ Hid (Below w.heap.size w w') := by
  go_enter Try.func16, Try.ntmps16
  go_wp2_with (refine step_box rfl 1 rfl 37 (.tmp 0) rfl (inl 112 f) rfl ?_; intro g2 w2 hr2 hg2 hb2 hs2
               have R2 := Lib.hid hr2
               have HB2 := Lib.hid hb2
               clear hr2 hb2 hg2 hs2)
  go_loopw [4, 5, 6] (fun x y z wr => ∃ (k : Nat) (A A' : Option Addr) (c c' : Nat), Hid (k ≤ 112) ∧ z = .int .i64 (k : Int) ∧ x = .slice A k c ∧ y = .slice A' k c' ∧ Hid (slotB f k = true) ∧ Hid (OV w.heap.size wr 3 A k c s2v) ∧ Hid (OV w.heap.size wr 23 A' k c' (vv f)) ∧ Hid (Row wr g2 37 (inl 112 f)) ∧ Hid (Below w.heap.size w wr)) (fun _ _ z _ => 112 - (intOf z).toNat)
  case atStart => exact ⟨0, none, none, 0, 0, Lib.hid (by omega), rfl, rfl, rfl, Lib.hid rfl, Lib.hid (by unfold OV; rw [fv_zero]; exact World.ownsRow_nil _ _ _ _), Lib.hid (by unfold OV; rw [fv_zero]; exact World.ownsRow_nil _ _ _ _), R2, HB2⟩
  case round =>
    clear R2 HB2
    obtain ⟨k, A, A', c, c', HK, rfl, rfl, rfl, HSL, HS, HV, HR, HB⟩ := hrel
    have hkw : IntKind.i64.wrap ((k : Int) + 1) = (k : Int) + 1 := by rw [IntKind.wrap_i64]; have := HK.out; omega
    by_cases hk : k < 112
    · have hki : (k : Int) < 112 := by omega
      have hk0 : (0 : Int) ≤ (k : Int) := by omega
      have HKL := Lib.hid hk
      obtain ⟨z, hz⟩ : ∃ z, f k = z := ⟨_, rfl⟩
      have HC : Hid (∀ W, Row W g2 37 (inl 112 f) → W.cell? ⟨g2, k, none⟩ = some (.int .i64 z)) := Lib.hid (fun W h => by rw [h.cell, inl_get f HKL.out, hz])
      have ck := HC.out _ HR.out
      cases hb : inB z 0 255
      · have HF := Lib.hid (p := slotB f 112 = false) (by
          cases h : slotB f 112
          · rfl
          · have h1 := (slotB_iff f 112).1 h k hk
            rw [hz] at h1
            rw [(inB_iff z 0 255).2 h1] at hb
            cases hb)
        have HBD := Lib.hid hb
        clear hk hz hb
        go_wp2_with (go_at_call 34; refine (rin_any _ _ _).mono ?_; rintro e w' ⟨rfl, rfl⟩; rw [HBD.out])
        go_ret2
        exact ⟨.inl ⟨HF.out, rfl⟩, HB⟩
      · have HSL2 := Lib.hid (p := slotB f (k + 1) = true) (by rw [slotB_succ, HSL.out, hz]; exact hb)
        have HBD := Lib.hid hb
        obtain ⟨x, rfl⟩ : ∃ x : Nat, z = (x : Int) := ⟨z.toNat, by have := (inB_iff z 0 255).1 hb; omega⟩
        have hx : x < 65536 := by have := (inB_iff (x : Int) 0 255).1 hb; omega
        have hxw : IntKind.u64.wrap (x : Int) = (x : Int) := by rw [wrap_64]; omega
        have hxw' : (x : Int) % 18446744073709551616 = (x : Int) := by omega
        have HVX := Lib.hid (p := vv f k = .int .u64 (x : Int)) (by unfold vv; rw [hz])
        clear hk hz hb hx
        go_wp2_with (first
          | (go_at_call 34; refine (rin_any _ _ _).mono ?_; rintro e w' ⟨rfl, rfl⟩; rw [HBD.out])
          | (at_builtin
             refine wp_join rfl _ _ rfl rec_int w.heap.size (.slice A k c) k (fv k s2v) rfl (HS.out.alloc _) (some ⟨wr.heap.size, 0, none⟩) 1 1 [.int .i64 2] rfl rfl (made_src wr [.int .i64 2] _) (by intro u hu; simp at hu; subst hu; rfl) (by have := HKL.out; omega) (by have := HB.out.size; simp; omega) ?_
             intro v1 w1 ho1 hg1 hat1
             obtain ⟨A1, c1, rfl, ho2, hb2⟩ := OV.more HB.out HB.out.size HS.out (show s2v k = .int .i64 2 from rfl) ho1 hg1
             have HS1 := Lib.hid ho2
             have HB1 := Lib.hid hb2
             have HR1 := Lib.hid ((HR.out.alloc _).grown hg1 (fun e => OV.farL HR.out HS.out (by decide) e))
             have HV1 : Hid (OV w.heap.size w1 23 A' k c' (vv f)) := Lib.hid (OV.apart (w := wr.alloc _) (HV.out.alloc _) (HS.out.alloc _) (by decide) hg1)
             have ck1 := HC.out _ HR1.out
             clear ho1 hg1 hat1 ho2 hb2)
          | (at_builtin
             refine wp_join rfl _ _ rfl rec_u64 w.heap.size (.slice A' k c') k (fv k (vv f)) rfl (HV1.out.alloc _) (some ⟨w1.heap.size, 0, none⟩) 1 1 [.int .u64 (x : Int)] rfl rfl (made_src w1 [.int .u64 (x : Int)] _) (by intro u hu; simp at hu; subst hu; rfl) (by have := HKL.out; omega) (by have := HB1.out.size; simp; omega) ?_
             intro v3 w3 ho3 hg3 hat3
             obtain ⟨A3, c3, rfl, ho4, hb4⟩ := OV.more HB1.out HB1.out.size HV1.out HVX.out ho3 hg3
             have HV3 := Lib.hid ho4
             have HB3 := Lib.hid hb4
             have HR3 := Lib.hid ((HR1.out.alloc _).grown hg3 (fun e => OV.farL HR1.out HV1.out (by decide) e))
             have HS3 : Hid (OV w.heap.size w3 3 A1 (k + 1) c1 s2v) := Lib.hid (OV.apart (w := w1.alloc _) (HS1.out.alloc _) (HV1.out.alloc _) (by decide) hg3)
             clear ho3 hg3 hat3 ho4 hb4 ck1))
        go_roundw
        case rel => exact ⟨k + 1, A1, A3, c1, c3, Lib.hid HKL.out, by go_num, rfl, rfl, HSL2, HS3, HV3, HR3, HB3⟩
        case measure => have := HKL.out; simp [intOf]; omega
    · obtain rfl : k = 112 := by have := HK.out; omega
      have hki : ¬ ((112 : Nat) : Int) < 112 := by omega
      have HF := Lib.hid ((slotB_iff f 112).1 HSL.out)
      clear hk
      go_wp2_with (go_at_call 26
                   refine (rnumbers_any s2 f 112 A A' c c' (by omega) (fun k _ => .inr (.inl rfl)) (fun k hk => ⟨(HF.out k hk).1, by have h := HF.out k hk; show (f k).toNat < 65536; omega⟩) (by rw [off_s2]; omega) wr (HS.out.cells (by omega)) (HV.out.cells (by omega))).mono ?_
                   rintro e w5 ⟨A5, c5, rfl, ho5, hb5⟩
                   have HO5 := Lib.hid (p := w5.ownsRow w.heap.size 5 1 (.slice A5 256 c5) 256 (bc (blk s2 f 112))) (own_low ho5.out HB.out.size)
                   have HB5 := Lib.hid (p := Below w.heap.size w w5) (HB.out.trans (hb5.out.mono HB.out.size))
                   clear ho5 hb5)
      go_ret2
      exact ⟨.inr ⟨HSL.out, A5, c5, rfl, HO5⟩, HB5⟩
/-! A list's block, number by number. -/
theorem leb_two (a b : UInt8) : leb (num [a, b]) 2 = [a, b] := by
  have ha := a.toNat_lt
  have hb := b.toNat_lt
  have e : num [a, b] = a.toNat + 256 * b.toNat := by simp [num]
  rw [e]
  show [UInt8.ofNat ((a.toNat + 256 * b.toNat) / 256 ^ 0), UInt8.ofNat ((a.toNat + 256 * b.toNat) / 256 ^ 1)] = [a, b]
  have e0 : (a.toNat + 256 * b.toNat) / 256 ^ 0 = a.toNat + 256 * b.toNat := by rw [Nat.pow_zero, Nat.div_one]
  have e1 : (a.toNat + 256 * b.toNat) / 256 ^ 1 = b.toNat := by rw [Nat.pow_one]; omega
  rw [e0, e1]
  congr 1
  · apply UInt8.toNat.inj
    rw [UInt8.toNat_ofNat']
    have : (2 : Nat) ^ 8 = 256 := rfl
    omega
  · congr 1
    apply UInt8.toNat.inj
    rw [UInt8.toNat_ofNat']
    have : (2 : Nat) ^ 8 = 256 := rfl
    omega
theorem nb_take (L : List UInt8) : ∀ k, 2 * k ≤ L.length → nb s2 (rd s2 L) k = L.take (2 * k)
  | 0, _ => rfl
  | k + 1, h => by
    rw [nb, nb_take L k (by omega)]
    unfold rd
    rw [Int.toNat_natCast]
    unfold rdn
    rw [off_s2]
    obtain ⟨M, hM⟩ : ∃ M, L.drop (2 * k) = M := ⟨_, rfl⟩
    have hl : 2 ≤ M.length := by rw [← hM, List.length_drop]; omega
    have e : L.take (2 * (k + 1)) = L.take (2 * k) ++ M.take 2 := by rw [← hM, show 2 * (k + 1) = 2 * k + 2 by omega, List.take_add]
    rw [e, hM]
    congr 1
    rcases M with _ | ⟨a, _ | ⟨b, t⟩⟩
    · simp at hl
    · simp at hl
    · exact leb_two a b
theorem num_zeros : ∀ n, num (List.replicate n 0) = 0
  | 0 => rfl
  | n + 1 => by rw [List.replicate_succ]; simp [num, num_zeros n]
theorem leb_zero2 : leb 0 2 = [0, 0] := rfl
theorem nb_zeros (v : Nat → Int) (n : Nat) : ∀ j, (∀ i, i < j → v (n + i) = 0) → nb s2 v (n + j) = nb s2 v n ++ List.replicate (2 * j) 0
  | 0, _ => by simp
  | j + 1, h => by
    show nb s2 v (n + j) ++ leb (v (n + j)).toNat 2 = _
    rw [nb_zeros v n j (fun i hi => h i (by omega)), h j (by omega), show (0 : Int).toNat = 0 from rfl, leb_zero2, List.append_assoc, show 2 * (j + 1) = 2 * j + 2 by omega, ← List.replicate_append_replicate]
    rfl
theorem lOk_iff (L : List UInt8) (hL : L.length = 256) : lOk L = true ↔ ∀ i, i < 128 → rdn s2 L i ≤ 255 ∧ (112 ≤ i → rdn s2 L i = 0) := by
  unfold lOk
  rw [decide_eq_true hL, Bool.true_and, Bool.and_eq_true, decide_eq_true_eq, slotB_iff]
  constructor
  · rintro ⟨h1, h2⟩ i hi
    have hz : 112 ≤ i → rdn s2 L i = 0 := fun h => by
      unfold rdn
      rw [← h2, off_s2]
      unfold blk
      have hl : (nb s2 (rd s2 L) 112).length = 224 := by rw [nb_len, off_s2]
      rw [show 2 * i = (nb s2 (rd s2 L) 112).length + (2 * i - 224) by rw [hl]; omega, ← List.drop_drop, List.drop_left, List.drop_replicate, List.take_replicate]
      exact num_zeros _
    refine ⟨?_, hz⟩
    by_cases h : i < 112
    · have := (h1 i h).2
      unfold rd at this
      omega
    · rw [hz (by omega)]
      omega
  · intro h
    refine ⟨fun j hj => ⟨Int.natCast_nonneg _, by have := (h j (by omega)).1; unfold rd; omega⟩, ?_⟩
    have h1 := nb_take L 128 (by omega)
    rw [List.take_of_length_le (by omega)] at h1
    have h2 := nb_zeros (rd s2 L) 112 16 (fun i hi => by unfold rd; rw [(h (112 + i) (by omega)).2 (by omega)]; rfl)
    unfold blk
    rw [off_s2]
    rw [show 112 + 16 = 128 from rfl, h1] at h2
    exact h2.symm
end Go.Proofs.Ytpmldaoligmkaaa
