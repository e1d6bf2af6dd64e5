/- The reference's Bytes of an entry. Conditions: the entry's numbers have their room. -/
import Derived.Test.YtijffkklhgnknaaDoorMgRc
import Derived.Test.YtijffkklhgnknaaDoorRef2
import Derived.Test.YtijffkklhgnknaaDoorQp
set_option linter.unusedVariables false
set_option maxRecDepth 20000
namespace Go.Proofs.YtijffkklhgnknaaDoor
open Go.RowKit

theorem info_b1 : (Tryd.prog.info? 5).map (·.size) = some 1 := by kernel_rfl
theorem zero_u8 (w : World) : (zeroValue 5).run Tryd.prog w = .ok (.int .u8 0) w := by kernel_rfl
/-- A slice built of two values of one cell each. -/
theorem run_bsv2 {P : Program} (t e : TypeId) (hu : P.underlying t = some (.slice e)) (hs : (P.info? e).map (·.size) = some 1) (z : Value) (hz : ∀ w, (zeroValue e).run P w = .ok z w) (u v : Value) (hu1 : u.cells = #[u]) (hv : v.cells = #[v]) (w : World) :
    (Instr.buildSlice t 2 #[(0, u), (1, v)]).run P w = .ok (.slice (some ⟨w.heap.size, 0, none⟩) 2 2) (w.alloc (.cells [u, v].toArray e)) := by
  have hfill : ∀ zs : Array Value, zs.size = 2 → Instr.fill (fun i => some (i * 1, 1)) zs [(0, u), (1, v)] = some [u, v].toArray := fun zs hzs => by
    have hz2 : zs.toList = zs.toList.take 1 ++ zs.toList.drop 1 := (List.take_append_drop 1 _).symm
    have hl1 : (zs.toList.take 1).length = 1 := by rw [List.length_take]; simp; omega
    have hl2 : (zs.toList.drop 1).length = 1 := by rw [List.length_drop]; simp; omega
    have h1 := fill_part (place := fun i => some (i * 1, 1)) (A := []) (old := zs.toList.take 1) (B := zs.toList.drop 1) (vs := [u]) (i := 0) (off := 0) (n := 1) (v := u) (rest := [(1, v)]) (by simp) (by simpa using hu1) rfl rfl hl1
    have h2 := fill_part (place := fun i => some (i * 1, 1)) (A := [u]) (old := zs.toList.drop 1) (B := []) (vs := [v]) (i := 1) (off := 1) (n := 1) (v := v) (rest := []) (by simp) (by simpa using hv) rfl rfl hl2
    simp only [List.append_nil, List.nil_append] at h1 h2
    rw [← hz2, Array.toArray_toList] at h1
    rw [h1, h2]
    rfl
  cases hq : P.info? e with
  | none => simp [hq] at hs
  | some i =>
    have hi : i.size = 1 := by simpa [hq] using hs
    have hf := hfill ((Array.range (2 * 1)).map (z.cells[· % z.cells.size]!)) (by simp)
    have hsz : ∀ w : World, (sizeOf e).run P w = .ok 1 w := size_of hs
    have h1 : ¬ (2 ^ 24 < 2 * 1) := by decide
    have h2 : ¬ 2 * 1 = 0 := by decide
    clear hq hi
    unfold Instr.buildSlice
    simp only [Sem.run_bind, run_underlying hu, Result.andThen_ok, hsz, gt_iff_lt, h1, if_false, h2, Sem.run_pure, hz, Sem.run_ite]
    rw [hf]
    simp [newRow, go_sem]
theorem step_bsv2 {P : Program} {ops : Array Oper} {rest : List Oper} {o : Oper} {a : Act} {w : World} {Q : Exit → Act → World → Prop} (hgd : o.guard = none) (t e : TypeId) (x y : Operand) (ho : o.op = .buildSlice t 2 #[(0, x), (1, y)]) (hu : P.underlying t = some (.slice e)) (hs : (P.info? e).map (·.size) = some 1) (z : Value) (hz : ∀ w, (zeroValue e).run P w = .ok z w) (u v : Value) (hu1 : u.cells = #[u]) (hv : v.cells = #[v]) (hx : a.eval x = u) (hy : a.eval y = v)
    (h : ∀ g w', Row w' g e [u, v] → Hid (g = w.heap.size) → Below w.heap.size w w' → wpList P ops Q rest (a.put o.dst (.slice (some ⟨g, 0, none⟩) 2 2)) w') : wpList P ops Q (o :: rest) a w := by
  refine wpList_plain hgd fun K hK => ?_
  have hr := run_bsv2 t e hu hs z hz u v hu1 hv w
  unfold Oper.wp execOp
  simp only [ho, hx, hy, List.map_toArray, List.map_cons, List.map_nil, Sem.run_bind, hr, Result.andThen_ok]
  exact hK _ _ (h _ _ (Row.made w e [u, v]) (show _ = _ from rfl) ((Below.refl _ _).alloc (Nat.le_refl _) _))
theorem leb_one (i : Nat) : leb i 1 = [UInt8.ofNat i] := by simp [leb]
theorem u8_nat2 (i : Nat) (h : i < 256) : ((UInt8.ofNat i).toNat : Int) = (i : Int) := by
  rw [UInt8.toNat_ofNat']
  omega
theorem wrap_u8n (i : Nat) (h : i < 256) : IntKind.u8.wrap (i : Int) = (i : Int) := by
  simp [IntKind.wrap, IntKind.bits, IntKind.signed]
  omega
set_option maxHeartbeats 2000000 in
theorem rpack_any (x : Ent) (i k s : Nat) (hn : Nice x i k s) (w : World) : Calls Tryd.prog 27 #[.agg (ecs x).toArray] w (ByP w (16 + s) (enb x)) := by
  obtain ⟨hi, hk, hil, hkl, hser, hck, hnm, hsl⟩ := hn
  obtain ⟨l2, h2⟩ : ∃ l, leb i 1 ++ leb k 1 = l := ⟨_, rfl⟩
  obtain ⟨l3, h3⟩ : ∃ l, l2 ++ leb x.ser 8 = l := ⟨_, rfl⟩
  obtain ⟨l4, h4⟩ : ∃ l, l3 ++ leb x.ck 4 = l := ⟨_, rfl⟩
  have q2 : l2.length = 2 := by rw [← h2]; simp [leb_len]
  have q3 : l3.length = 10 := by rw [← h3]; simp [leb_len, q2]
  have q4 : l4.length = 14 := by rw [← h4]; simp [leb_len, q3]
  have h5 : enb x = l4 ++ leb s 2 ++ x.nm.data.toList := by
    rw [← h4, ← h3, ← h2]
    unfold enb
    rw [hi, hk, hnm, Int.toNat_natCast, Int.toNat_natCast]
  rw [h5]
  have hsz : x.nm.size = s := by rw [← hnm, Array.length_toList]; rfl
  have N2 := Lib.hid (p := ∀ (w : World) (g : Nat), Row w g 5 [.int .u8 (i : Int), .int .u8 (k : Int)] → Hol w (some ⟨g, 0, none⟩) l2) (fun w g h => by
    rw [← h2, leb_one, leb_one]
    refine .inr ⟨g, 0, rfl, fun j y hy => ?_⟩
    rw [Nat.zero_add, h.cell]
    rcases j with _ | _ | j
    · simp at hy; subst hy; rw [u8_nat2 i hil]; rfl
    · simp at hy; subst hy; rw [u8_nat2 k hkl]; rfl
    · simp at hy)
  have put : ∀ (l : List UInt8) (q : Nat) (z : Nat) (v : Nat), l.length = q → (z = 1 ∨ z = 2 ∨ z = 4 ∨ z = 8) → v < 256 ^ z → v < 18446744073709551616 → q ≤ 1000 → ∀ (A : Option Addr) (c : Nat) (w : World), Hol w A l → Calls Tryd.prog 49 #[.slice A q c, .int .i64 (z : Int), .int .u64 (v : Int)] w fun e w' => ∃ A' c', e = .returned (.tuple #[.slice A' (q + z) c', .int .i64 0]) ∧ w'.ownsRow w.heap.size 5 1 (.slice A' (q + z) c') (q + z) (bc (l ++ leb v z)) ∧ Below w.heap.size w w' := fun l q z v hl hz hv hv2 hq A c w hA => by
    have h := rput_any A c l (z : Int) v w hA hv2 (by omega)
    rw [putR_ok l z v hz hv, hl] at h
    refine h.mono ?_
    rintro e w' ⟨u, rfl, ho, hb⟩
    have ho2 := ho
    dsimp only at ho2
    rw [List.length_append, leb_len, hl] at ho2
    obtain ⟨A1, c1, rfl⟩ := own8_sl ho2
    exact ⟨A1, c1, rfl, ho2, hb⟩
  have N3 := Lib.hid (fun A c w hA => put l2 2 8 x.ser q2 (.inr (.inr (.inr rfl))) (by omega) (by omega) (by omega) A c w hA)
  rw [h3] at N3
  have N4 := Lib.hid (fun A c w hA => put l3 10 4 x.ck q3 (.inr (.inr (.inl rfl))) (by omega) (by omega) (by omega) A c w hA)
  rw [h4] at N4
  have N5 := Lib.hid (p := ∀ (A : Option Addr) (c : Nat) w (hA : Hol w A l4), Calls Tryd.prog 50 #[.slice A 14 c, .string x.nm] w fun e w' => ∃ A' c', e = .returned (.tuple #[.slice A' (16 + s) c', .int .i64 0]) ∧ w'.ownsRow w.heap.size 5 1 (.slice A' (16 + s) c') (16 + s) (bc (l4 ++ leb s 2 ++ x.nm.data.toList)) ∧ Below w.heap.size w w') (fun A c w hA => by
    have h := rtxt_any A c l4 x.nm w hA (by omega) (by omega)
    have hr : txtR l4 x.nm.data.toList = (l4 ++ leb s 2 ++ x.nm.data.toList, 0) := by unfold txtR; rw [hnm, if_neg (by omega)]
    rw [hr, q4] at h
    refine h.mono ?_
    rintro e w' ⟨v, rfl, ho, hb⟩
    dsimp only at ho
    rw [show (l4 ++ leb s 2 ++ x.nm.data.toList).length = 16 + s by simp [leb_len, q4, hnm]; omega] at ho
    obtain ⟨A1, c1, rfl⟩ := own8_sl ho
    exact ⟨A1, c1, rfl, ho, hb⟩)
  have HC := Lib.hid (p := ∀ (w : World) (g : Nat), Row w g 42 (ecs x) → w.cell? ⟨g, 0, none⟩ = some (.string x.nm) ∧ w.cell? ⟨g, 1, none⟩ = some (.int .i64 (i : Int)) ∧ w.cell? ⟨g, 2, none⟩ = some (.int .u64 (x.ser : Int)) ∧ w.cell? ⟨g, 3, none⟩ = some (.int .i64 (k : Int)) ∧ w.cell? ⟨g, 4, none⟩ = some (.int .u32 (x.ck : Int))) (fun w g h => ⟨by rw [h.cell]; rfl, by rw [h.cell, ← hi]; rfl, by rw [h.cell]; rfl, by rw [h.cell, ← hk]; rfl, by rw [h.cell]; rfl⟩)
  have u1 := wrap_u8n i hil
  have u2 := wrap_u8n k hkl
  have u3 := u64_nat x.ck (by omega)
  obtain ⟨nm, hnm2⟩ : ∃ b, x.nm = b := ⟨_, rfl⟩
  obtain ⟨ser, hser2⟩ : ∃ b, x.ser = b := ⟨_, rfl⟩
  obtain ⟨ck, hck2⟩ : ∃ b, x.ck = b := ⟨_, rfl⟩
  obtain ⟨l5, hl5⟩ : ∃ l, l4 ++ leb s 2 ++ x.nm.data.toList = l := ⟨_, rfl⟩
  rw [hl5] at N5 ⊢
  rw [hnm2, hser2, hck2] at HC
  rw [hnm2] at N5
  rw [hser2] at N3
  rw [hck2] at N4 u3
  clear hi hk hil hkl hser hck hnm hsl h2 h3 h4 h5 q2 q3 q4 hsz hl5 hnm2 hser2 hck2 put
  go_enter Tryd.func27, Tryd.ntmps27
  go_wp2_with (first
    | (refine step_box rfl 1 rfl 42 (.tmp 0) rfl (ecs x) rfl ?_; intro g w1 hr1 hg1 hb1 hs1
       have R1 := Lib.hid hr1
       have B1 := Lib.hid hb1
       obtain ⟨c0, c1, c2, c3, c4⟩ := HC.out w1 g hr1
       clear hr1 hg1 hb1 hs1)
    | (refine step_bsv2 rfl 33 5 _ _ rfl Tryd.underlying33 info_b1 _ zero_u8 (.int .u8 (i : Int)) (.int .u8 (k : Int)) rfl rfl rfl rfl ?_; intro g2 w2 hr2 hg2 hb
       have O2 := Lib.hid (N2.out _ _ hr2)
       have R2 := Lib.hid (R1.out.kept hb)
       have B2 := Lib.hid (below_nxt hb B1.out)
       obtain ⟨c0, c1, c2, c3, c4⟩ := HC.out w2 g R2.out
       clear hr2 hg2 hb)
    | (go_at_call 49; refine (N3.out _ _ _ O2.out).mono ?_; rintro e w4 ⟨A3, d3, rfl, ho, hb⟩
       have O3 := Lib.hid (Hol.own ho)
       have R4 := Lib.hid (R2.out.kept hb)
       have B4 := Lib.hid (below_nxt hb B2.out)
       obtain ⟨c0, c1, c2, c3, c4⟩ := HC.out w4 g R4.out
       clear ho hb N3)
    | (go_at_call 49; refine (N4.out _ _ _ O3.out).mono ?_; rintro e w5 ⟨A4, d4, rfl, ho, hb⟩
       have O4 := Lib.hid (Hol.own ho)
       have R5 := Lib.hid (R4.out.kept hb)
       have B5 := Lib.hid (below_nxt hb B4.out)
       obtain ⟨c0, c1, c2, c3, c4⟩ := HC.out w5 g R5.out
       clear ho hb N4)
    | (go_at_call 50; refine (N5.out _ _ _ O4.out).mono ?_; rintro e w6 ⟨A5, d5, rfl, ho, hb⟩
       have O5 := Lib.hid (own_lower ho B5.out.size)
       have B6 := Lib.hid (below_nxt hb B5.out)
       clear ho hb N5))
  go_ret
  exact ⟨A5, d5, rfl, O5.out, B6.out⟩
end Go.Proofs.YtijffkklhgnknaaDoor
