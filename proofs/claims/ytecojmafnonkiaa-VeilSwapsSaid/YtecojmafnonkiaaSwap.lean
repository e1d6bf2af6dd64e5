/- The law VeilSwaps, walked: for every nonce, bytes and two texts of bytes it returns true. Conditions: those on how the arguments lie. -/
import Derived.Test.YtecojmafnonkiaaAwk
import Derived.Test.YtecojmafnonkiaaRXor
import Derived.Test.YtecojmafnonkiaaRPut
import Derived.Deep.RegionHeld3
set_option linter.unusedVariables false
namespace Go.Proofs.Ytecojmafnonkiaa
open Go.RowKit

/-- A row told by a function of the place, as a list. -/
def bl (n : Nat) (f : Nat → UInt8) : List UInt8 := (List.range n).map f
theorem bl_len (n : Nat) (f : Nat → UInt8) : (bl n f).length = n := by simp [bl]
theorem bl_bc (n : Nat) (f : Nat → UInt8) : brr n f = bc (bl n f) := by
  simp [brr, bc, bl, bv]
theorem bl_get {n j : Nat} (f : Nat → UInt8) (h : j < n) : (bl n f)[j]? = some (f j) := by simp [bl, h]
theorem bl_getD {n j : Nat} (f : Nat → UInt8) (h : j < n) : (bl n f).getD j 0 = f j := by rw [List.getD_eq_getElem?_getD, bl_get f h]; rfl
theorem Row.hol {w : World} {g n : Nat} {t : TypeId} {f : Nat → UInt8} (h : Row w g t (brr n f)) : Hol w (some ⟨g, 0, none⟩) (bl n f) := by
  rw [bl_bc] at h
  refine .inr ⟨g, 0, rfl, fun j x hx => ?_⟩
  rw [Nat.zero_add, h.cell]
  exact get_bc hx
/-- What is hidden of the second text is what is hidden of the first. -/
theorem swap_eq (F : Nat → UInt8) (a b : List UInt8) (n : Nat) (ha : a.length = n) (hb : b.length = n) (hn : n ≤ 4096) :
    bl n (hid (fun j => ((bl n (xr (bl n (xr (bl n F) a)) b)).take 4096).getD j 0) b) = bl n (hid F a) := by
  unfold bl
  apply List.map_congr_left
  intro j hj
  have hj := List.mem_range.1 hj
  have e0 : ((bl n (xr (bl n (xr (bl n F) a)) b)).take 4096).getD j 0 = xr (bl n (xr (bl n F) a)) b j := by
    rw [List.take_of_length_le (by rw [bl_len]; exact hn), bl_getD _ hj]
  have e1 : xr (bl n (xr (bl n F) a)) b j = (F j ^^^ a.getD j 0) ^^^ b.getD j 0 := by
    unfold xr
    rw [bl_getD _ hj]
    show (bl n F).getD j 0 ^^^ _ ^^^ _ = _
    rw [bl_getD _ hj]
  show hid (fun j => ((bl n (xr (bl n (xr (bl n F) a)) b)).take 4096).getD j 0) b j = hid F a j
  show ((bl n (xr (bl n (xr (bl n F) a)) b)).take 4096).getD j 0 ^^^ b.getD j 0 = F j ^^^ a.getD j 0
  rw [e0, e1, UInt8.xor_assoc, UInt8.xor_self, UInt8.xor_zero]
theorem wp_min {P : Program} {w : World} {ops : Array Oper} {rest : List Oper} {o : Oper} {a : Act} {Q : Exit → Act → World → Prop} (hgd : o.guard = none) (s x : Operand) (ts : Array TypeId) (ho : o.op = .call { callee := .builtin .min, args := #[s, x], argTypes := ts })
    (p q m : Int) (hs : a.eval s = .int .i64 p) (hx : a.eval x = .int .i64 q) (hm : (if q < p then q else p) = m) (h : wpList P ops Q rest (a.put o.dst (.int .i64 m)) w) : wpList P ops Q (o :: rest) a w := by
  refine wpList_plain hgd fun K hK => ?_
  subst hm
  unfold Oper.wp execOp
  simp only [ho, resolve, invoke, builtin, Sem.run_bind, Sem.run_pure, Result.andThen_ok, List.map_toArray, List.map_cons, List.map_nil, hs, hx, run_min_int2]
  exact hK _ _ h
/-- A veil of one pad. -/
theorem ideal_one (g e s : Nat) (A : Option Addr) (c : Nat) (l : List UInt8) (he : e < 4294967296) (hs : s < 4294967296) (hlc : l.length ≤ c) (hl : l.length ≤ 1099511627776) (w : World)
    (h0 : w.cell? ⟨g, 0, none⟩ = some (.int .u32 (e : Int))) (h1 : w.cell? ⟨g, 1, none⟩ = some (.int .u32 (s : Int))) (h2 : w.cell? ⟨g, 2, none⟩ = some (.slice A l.length c)) (hA : Hol w A l) :
    Calls Try.prog 14 #[.slice (some ⟨g, 0, none⟩) 1 1] w fun x w' => ∃ g' M, x = .returned (.pointer (some ⟨g', 0, none⟩)) ∧ MaskAt w' g' M ∧ Hid (M e s = fun j => (l.take 4096).getD j 0) ∧ Below w.heap.size w w' := by
  refine (ideal_any (some ⟨g, 0, none⟩) 1 [⟨e, s, A, c, l⟩] (by simp) w (one_at (gb := 0) h0 h1 h2 hA hl) (one_ok he hs hlc)).mono ?_
  rintro x w' ⟨g', rfl, _, hI, hb⟩
  refine ⟨g', _, rfl, hI.mask, ?_, hb⟩
  show pmask _ e s = _
  funext j
  unfold pmask
  rw [one_hit]
theorem xor_call (A B : Option Addr) (c d n k : Nat) (a b : List UInt8) (hn : n = a.length) (hk : k = b.length) (hab : a.length ≤ b.length) (hb : b.length ≤ 1099511627776) (w : World) (hA : Hol w A a) (hB : Hol w B b) :
    Calls Try.prog 17 #[.slice A n c, .slice B k d] w fun e w' => ∃ A' c', e = .returned (.slice A' n c') ∧ Hid (Hol w' A' (bl n (xr a b))) ∧ Hid (n ≤ c') ∧ Below w.heap.size w w' := by
  subst hn
  subst hk
  refine (rxorl_any A B c d a b hab (Nat.le_trans hab hb) (Nat.le_trans hb (by omega)) w hA hB).mono ?_
  rintro e w' ⟨v, rfl, hown, hbel⟩
  rw [bl_bc] at hown
  obtain ⟨_, A', c', rfl, h1, _, h3⟩ := own_form hown
  rw [bl_len] at h1
  exact ⟨A', c', by rw [bl_len], h3, h1, hbel⟩
theorem bytes_call (A B : Option Addr) (c d n k : Nat) (a b : List UInt8) (hn : n = a.length) (hk : k = b.length) (w : World) (hA : Hol w A a) (hB : Hol w B b) (ha : a.length ≤ 1099511627776) (hb : b.length ≤ 1099511627776) :
    Calls Try.prog 11 #[.slice A n c, .slice B k d] w fun e w' => e = .returned (.bool (decide (a = b))) ∧ Below w.heap.size w w' := by
  subst hn
  subst hk
  exact rbytes_any A B c d a b w hA hB (Nat.le_trans ha (by omega)) (Nat.le_trans hb (by omega))
theorem hide_call (g : Nat) (M : Nat → Nat → Nat → UInt8) (A : Option Addr) (c n : Nat) (l : List UInt8) (hn : n = l.length) (e s : Nat) (he : e < 4294967296) (hs : s < 4294967296) (hl : l.length ≤ 4096) (w : World) (hM : MaskAt w g M) (hA : Hol w A l) :
    Calls Try.prog 16 #[.pointer (some ⟨g, 0, none⟩), .int .u32 (e : Int), .int .u32 (s : Int), .slice A n c] w (NewRow w n (hid (M e s) l)) := by
  subst hn
  exact hide_any g M A c l e s he hs hl w hM hA
theorem below_next {w u v : World} (hb : Below u.heap.size u v) (ha : Below w.heap.size w u) : Below w.heap.size w v := ha.trans (hb.mono ha.size)
theorem below_draw (w : World) : Below w.heap.size w w.drew := (Below.refl _ _).drew
theorem ideal_call (g e s : Nat) (A : Option Addr) (c n : Nat) (l : List UInt8) (hn : n = l.length) (he : e < 4294967296) (hs : s < 4294967296) (hlc : n ≤ c) (hl : n ≤ 1099511627776) (w : World)
    (h0 : w.cell? ⟨g, 0, none⟩ = some (.int .u32 (e : Int))) (h1 : w.cell? ⟨g, 1, none⟩ = some (.int .u32 (s : Int))) (h2 : w.cell? ⟨g, 2, none⟩ = some (.slice A n c)) (hA : Hol w A l) :
    Calls Try.prog 14 #[.slice (some ⟨g, 0, none⟩) 1 1] w fun x w' => ∃ g' M, x = .returned (.pointer (some ⟨g', 0, none⟩)) ∧ MaskAt w' g' M ∧ Hid (M e s = fun j => (l.take 4096).getD j 0) ∧ Below w.heap.size w w' := by
  subst hn
  exact ideal_one g e s A c l he hs hlc hl w h0 h1 h2 hA
theorem box_one (e s : Nat) : ∀ v ∈ [Value.int .u32 (e : Int), .int .u32 (s : Int)], v.oneCell' = true := by
  intro v hv
  simp at hv
  rcases hv with rfl | rfl <;> rfl

set_option maxRecDepth 20000 in
set_option maxHeartbeats 4000000 in
theorem swaps_any (e s : Nat) (he : e < 4294967296) (hs : s < 4294967296) (A A1 A2 : Option Addr) (c c1 c2 : Nat) (l l1 l2 : List UInt8) (hc : l.length ≤ c) (hc1 : l1.length ≤ c1) (hc2 : l2.length ≤ c2)
    (w : World) (hA : Hol w A l) (hA1 : Hol w A1 l1) (hA2 : Hol w A2 l2) :
    Calls Try.prog 6 #[.agg #[.int .u32 (e : Int), .int .u32 (s : Int)], .slice A l.length c, .agg #[.slice A1 l1.length c1, .slice A2 l2.length c2]] w fun x w' => x = .returned (.bool true) ∧ Below w.heap.size w w' := by
  obtain ⟨m, hm⟩ : ∃ m : Nat, min l1.length l2.length = m := ⟨_, rfl⟩
  have HM : (if (l2.length : Int) < (l1.length : Int) then (l2.length : Int) else (l1.length : Int)) = (m : Int) := by
    split <;> omega
  have HC := Lib.hid hc
  have HE := Lib.hid he
  have HS := Lib.hid hs
  have H0 := Lib.hid hA
  have H1 := Lib.hid hA1
  have H2 := Lib.hid hA2
  have M1 := Lib.hid (p := m ≤ l1.length) (by omega)
  have M2 := Lib.hid (p := m ≤ l2.length) (by omega)
  have mc1 : (m : Int) ≤ (c1 : Int) := by omega
  have mc2 : (m : Int) ≤ (c2 : Int) := by omega
  have m0 : (0 : Int) ≤ (m : Int) := by omega
  clear hc hc1 hc2 he hs hA hA1 hA2 hm
  by_cases hbig : (4096 : Int) < (m : Int)
  · go_enter Try.func6, Try.ntmps6
    go_wp2_with (first
      | (refine step_box rfl 3 rfl 25 _ rfl [Value.int .u32 (e : Int), .int .u32 (s : Int)] rfl ?_; intro g3 w3 hr3 hg3 hb3 hs3)
      | (refine step_box rfl 5 rfl 49 _ rfl [Value.slice A1 l1.length c1, .slice A2 l2.length c2] rfl ?_; intro g5 w5 hr5 hg5 hb5 hs5)
      | (go_at_call 8; refine (awake_any _).mono ?_; rintro x w1 ⟨rfl, hb1⟩
         have hr51 := hr5.kept hb1
         have c50 := hr51.cell 0
         have c51 := hr51.cell 1
         simp at c50 c51)
      | (refine wp_min rfl _ _ _ rfl _ _ (m : Int) rfl rfl HM ?_))
    go_ret
    exact ⟨rfl, (hb3.trans (hb5.mono hb3.size)).trans (hb1.mono (Nat.le_trans hb3.size hb5.size))⟩
  · by_cases hlong : (5000 : Int) < (l.length : Int)
    · go_enter Try.func6, Try.ntmps6
      go_wp2_with (first
        | (refine step_box rfl 3 rfl 25 _ rfl [Value.int .u32 (e : Int), .int .u32 (s : Int)] rfl ?_; intro g3 w3 hr3 hg3 hb3 hs3)
        | (refine step_box rfl 5 rfl 49 _ rfl [Value.slice A1 l1.length c1, .slice A2 l2.length c2] rfl ?_; intro g5 w5 hr5 hg5 hb5 hs5)
        | (go_at_call 8; refine (awake_any _).mono ?_; rintro x w1 ⟨rfl, hb1⟩
           have hr51 := hr5.kept hb1
           have c50 := hr51.cell 0
           have c51 := hr51.cell 1
           simp at c50 c51)
        | (refine wp_min rfl _ _ _ rfl _ _ (m : Int) rfl rfl HM ?_))
      go_ret
      exact ⟨rfl, (hb3.trans (hb5.mono hb3.size)).trans (hb1.mono (Nat.le_trans hb3.size hb5.size))⟩
    · have L5 := Lib.hid (p := l.length ≤ 5000) (by omega)
      have M4 := Lib.hid (p := m ≤ 4096) (by omega)
      go_enter Try.func6, Try.ntmps6
      go_wp2_with (first
        | (refine step_box rfl 3 rfl 25 _ rfl [Value.int .u32 (e : Int), .int .u32 (s : Int)] rfl ?_; intro g3 w3 hr3 hg3 hb3 hs3)
        | (refine step_box rfl 5 rfl 49 _ rfl [Value.slice A1 l1.length c1, .slice A2 l2.length c2] rfl ?_; intro g5 w5 hr5 hg5 hb5 hs5)
        | (go_at_call 8; refine (awake_any _).mono ?_; rintro x w1 ⟨rfl, hb1⟩
           have hr51 := hr5.kept hb1
           have c50 := hr51.cell 0
           have c51 := hr51.cell 1
           simp at c50 c51
           have hr31 := (hr3.kept hb5).kept hb1
           have c30 := hr31.cell 0
           have c31 := hr31.cell 1
           simp at c30 c31
           have hbw1 := (hb3.trans (hb5.mono hb3.size)).trans (hb1.mono (Nat.le_trans hb3.size hb5.size))
           have HB1 := Lib.hid hbw1
           clear hbw1 hr5 hr3 hg3 hg5 hb3 hb5 hs3 hs5 hb1)
        | (refine wp_min rfl _ _ _ rfl _ _ (m : Int) rfl rfl HM ?_)
        | (go_at_call 14
           have hba : Below w1.heap.size w1 (w1.alloc (.cells #[.int .u32 (e : Int), .int .u32 (s : Int), .slice A l.length c] 38)) := (Below.refl _ _).alloc (Nat.le_refl _) _
           refine (ideal_call w1.heap.size e s A c l.length l rfl HE.out HS.out HC.out (Nat.le_trans L5.out (by omega)) _ (by simp) (by simp) (by simp) ((H0.out.below HB1.out).below hba)).mono ?_
           rintro x w2 ⟨g2, M, rfl, hM2, hME, hb2⟩
           have hb12 := below_next hb2 hba
           have c302 := (hb12.cell (p := ⟨g3, 0, none⟩) (World.block_lt_of_cell? _ _ c30)).trans c30
           have c312 := (hb12.cell (p := ⟨g3, 1, none⟩) (World.block_lt_of_cell? _ _ c31)).trans c31
           have HB2 := Lib.hid (below_next hb12 HB1.out)
           have HM2 := Lib.hid hM2
           clear hba hb12 hb2 hM2 HB1)
        | (go_at_call 10
           refine (mask_any g2 M e s m HE.out HS.out M4.out _ HM2.out).mono ?_
           rintro x w4 ⟨g4, rfl, hr4, hg4, hb4⟩
           have c304 := (hb4.cell (p := ⟨g3, 0, none⟩) (World.block_lt_of_cell? _ _ c302)).trans c302
           have c314 := (hb4.cell (p := ⟨g3, 1, none⟩) (World.block_lt_of_cell? _ _ c312)).trans c312
           have HB4 := Lib.hid (below_next hb4 HB2.out)
           have HM4 := Lib.hid (HM2.out.below hb4)
           have HR4 := Lib.hid hr4.hol
           clear hb4 hr4 hg4 HM2 HB2))
      have A14 := Lib.hid (p := Hol w4.drew A1 (l1.take m)) (((H1.out.below HB4.out).take_ m).below (below_draw _))
      have A24 := Lib.hid (p := Hol w4.drew A2 (l2.take m)) (((H2.out.below HB4.out).take_ m).below (below_draw _))
      have T1 := Lib.hid (p := m = (l1.take m).length) (by rw [List.length_take]; have := M1.out; omega)
      have T2 := Lib.hid (p := m = (l2.take m).length) (by rw [List.length_take]; have := M2.out; omega)
      have HR4d := Lib.hid (HR4.out.below (below_draw _))
      obtain ⟨F, hF⟩ : ∃ F, M e s = F := ⟨_, rfl⟩
      rw [hF] at HR4d
      have HF := Lib.hid hF
      clear hF HR4
      go_region_held3 (fun w' => w'.cell? ⟨g3, 0, none⟩ = some (.int .u32 (e : Int)) ∧ w'.cell? ⟨g3, 1, none⟩ = some (.int .u32 (s : Int)))
        (first | (exact ⟨c307, c317⟩) | (exact ⟨c306, c316⟩) | (exact ⟨c305, c315⟩) | go_keep)
        (first
          | (go_at_call_of 17 (Value.slice A1 m c1)
             refine (xor_call (some ⟨g4, 0, none⟩) A1 m c1 m m (bl m F) (l1.take m) (bl_len _ _).symm T1.out (by rw [bl_len]; exact Nat.le_of_eq T1.out) (by rw [← T1.out]; exact Nat.le_trans M4.out (by omega)) _ HR4d.out A14.out).mono ?_
             rintro x w5 ⟨A5, k5, rfl, hH5, hk5, hb5⟩
             have c305 := (hb5.cell (p := ⟨g3, 0, none⟩) (World.block_lt_of_cell? _ _ c304)).trans c304
             have c315 := (hb5.cell (p := ⟨g3, 1, none⟩) (World.block_lt_of_cell? _ _ c314)).trans c314)
          | (go_at_call_of 17 (Value.slice A2 m c2)
             refine (xor_call A5 A2 k5 c2 m m (bl m (xr (bl m F) (l1.take m))) (l2.take m) (bl_len _ _).symm T2.out (by rw [bl_len]; exact Nat.le_of_eq T2.out) (by rw [← T2.out]; exact Nat.le_trans M4.out (by omega)) _ hH5.out (A24.out.below hb5)).mono ?_
             rintro x w6 ⟨A6, k6, rfl, hH6, hk6, hb6⟩
             have c306 := (hb6.cell (p := ⟨g3, 0, none⟩) (World.block_lt_of_cell? _ _ c305)).trans c305
             have c316 := (hb6.cell (p := ⟨g3, 1, none⟩) (World.block_lt_of_cell? _ _ c315)).trans c315)
          | (go_at_call 14
             have hba : Below w6.heap.size w6 (w6.alloc (.cells #[.int .u32 (e : Int), .int .u32 (s : Int), .slice A6 m k6] 38)) := (Below.refl _ _).alloc (Nat.le_refl _) _
             refine (ideal_call w6.heap.size e s A6 k6 m (bl m (xr (bl m (xr (bl m F) (l1.take m))) (l2.take m))) (bl_len _ _).symm HE.out HS.out hk6.out (Nat.le_trans M4.out (by omega)) _ (by simp) (by simp) (by simp) (hH6.out.below hba)).mono ?_
             rintro x w7 ⟨g7, M7, rfl, hM7, hME7, hb7⟩
             have hb67 := below_next hb7 hba
             have c307 := (hb67.cell (p := ⟨g3, 0, none⟩) (World.block_lt_of_cell? _ _ c306)).trans c306
             have c317 := (hb67.cell (p := ⟨g3, 1, none⟩) (World.block_lt_of_cell? _ _ c316)).trans c316
             have HB7 := Lib.hid (below_next hb67 (below_next hb6 (below_next hb5 (below_draw _)))))
          | fail)
      obtain ⟨G, hG⟩ : ∃ G : Nat → UInt8, (fun j => ((bl m (xr (bl m (xr (bl m F) (l1.take m))) (l2.take m))).take 4096).getD j 0) = G := ⟨_, rfl⟩
      have HX := Lib.hid (p := ∀ w', Below w7.heap.size w7 w' → Calls Try.prog 16 #[.pointer (some ⟨g2, 0, none⟩), .int .u32 (e : Int), .int .u32 (s : Int), .slice A1 m c1] w' (NewRow w' m (hid F (l1.take m)))) (fun w' hw' => by
        rw [← HF.out]
        exact hide_call g2 M A1 c1 m (l1.take m) T1.out e s HE.out HS.out (by rw [← T1.out]; exact M4.out) w' (HM4.out.below (below_next hw' HB7.out)) (((H1.out.below HB4.out).take_ m).below (below_next hw' HB7.out)))
      have HY := Lib.hid (p := ∀ w', Below w7.heap.size w7 w' → Calls Try.prog 16 #[.pointer (some ⟨g7, 0, none⟩), .int .u32 (e : Int), .int .u32 (s : Int), .slice A2 m c2] w' (NewRow w' m (hid G (l2.take m)))) (fun w' hw' => by
        rw [← hG, ← hME7.out]
        exact hide_call g7 M7 A2 c2 m (l2.take m) T2.out e s HE.out HS.out (by rw [← T2.out]; exact M4.out) w' (hM7.below hw') (((H2.out.below HB4.out).take_ m).below (below_next hw' HB7.out)))
      have hsw := swap_eq F (l1.take m) (l2.take m) m T1.out.symm T2.out.symm M4.out
      rw [hG] at hsw
      clear hG
      have HSW := Lib.hid hsw
      have HBW := Lib.hid (below_next HB7.out HB4.out)
      have hd7 := below_draw w7
      clear hsw hME7 hM7 hb7 hb67 hb6 hb5 hba hH6 hH5 hk5 hk6 HR4d A14 A24 HM4 HB4 HB7
      go_wp2
      go_region_held3 (fun w' => w'.cell? ⟨g3, 0, none⟩ = some (.int .u32 (e : Int)) ∧ w'.cell? ⟨g3, 1, none⟩ = some (.int .u32 (s : Int)))
        (first | (exact ⟨cz0, cz1⟩) | (exact ⟨cy0, cy1⟩) | (exact ⟨cx0, cx1⟩) | go_keep)
        (first
          | (go_at_call_of 16 (Value.slice A1 m c1)
             refine (HX.out _ (by assumption)).mono ?_
             rintro x wx ⟨gx, rfl, hrx, hgx, hbx⟩
             have hdx := below_next hbx (by assumption)
             have cx0 := (hdx.cell (p := ⟨g3, 0, none⟩) (World.block_lt_of_cell? _ _ c307)).trans c307
             have cx1 := (hdx.cell (p := ⟨g3, 1, none⟩) (World.block_lt_of_cell? _ _ c317)).trans c317)
          | (go_at_call_of 16 (Value.slice A2 m c2)
             refine (HY.out _ (by assumption)).mono ?_
             rintro x wy ⟨gy, rfl, hry, hgy, hby⟩
             have hdy := below_next hby (by assumption)
             have cy0 := (hdy.cell (p := ⟨g3, 0, none⟩) (World.block_lt_of_cell? _ _ c307)).trans c307
             have cy1 := (hdy.cell (p := ⟨g3, 1, none⟩) (World.block_lt_of_cell? _ _ c317)).trans c317)
          | (go_at_call 11
             refine (bytes_call (some ⟨gx, 0, none⟩) (some ⟨gy, 0, none⟩) m m m m _ _ (bl_len _ _).symm (bl_len _ _).symm _ (by first | exact (hrx.kept hby).hol | exact hrx.hol) (by first | exact (hry.kept hbx).hol | exact hry.hol) (by rw [bl_len]; exact Nat.le_trans M4.out (by omega)) (by rw [bl_len]; exact Nat.le_trans M4.out (by omega))).mono ?_
             rintro x wz ⟨rfl, hbz⟩
             have hdz := below_next hbz (by assumption)
             have cz0 := (hdz.cell (p := ⟨g3, 0, none⟩) (World.block_lt_of_cell? _ _ c307)).trans c307
             have cz1 := (hdz.cell (p := ⟨g3, 1, none⟩) (World.block_lt_of_cell? _ _ c317)).trans c317)
          | fail)
      all_goals
        go_wp2
        go_ret
        exact ⟨by rw [HSW.out]; simp, below_next hdz HBW.out⟩
end Go.Proofs.Ytecojmafnonkiaa
