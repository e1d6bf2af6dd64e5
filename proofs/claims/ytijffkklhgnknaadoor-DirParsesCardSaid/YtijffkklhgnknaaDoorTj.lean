/- The walk of DirParses. Conditions: the library's tables lie there, lengths are within the reach. -/
import Derived.Test.YtijffkklhgnknaaDoorTi
import Derived.Test.YtijffkklhgnknaaDoorRj
import Derived.Test.YtijffkklhgnknaaDoorRh
import Derived.Test.YtijffkklhgnknaaDoorRm
set_option linter.unusedVariables false
set_option maxRecDepth 20000
namespace Go.Proofs.YtijffkklhgnknaaDoor
open Go.RowKit
section
variable {H : Type} {enc : TypeId × Value → H} {W : World} {sp : Nat → Bool} {held : Bool} {base : Nat}
theorem bv_cs {fuel : Nat} {cs : List Value} {x : DataW H × List MemPlace} (hf : DataW.trod enc Tryd.prog W base sp held fuel 33 cs = some x) (hw : Sized 33 x.1) : ∃ y : BV, cs = sc y ∧ Hol W y.A y.l ∧ y.l.length ≤ reachBytes ∧ y.l.length ≤ y.c := by
  have hlen0 := fun (a : Option Addr) (len cap : Nat) (hc : cs = [.slice a len cap]) => slice_sz Tryd.underlying33 (of_decide_eq_true (by kernel_rfl)) hf hw hc
  obtain ⟨a, len, cap, l, rfl, hI⟩ := bytes_cs hf
  obtain rfl := hI.len_
  exact ⟨⟨a, cap, l⟩, rfl, hI.hol, hlen0 _ _ _ rfl, hI.cap_⟩
/-- A list of blocks that came in. -/
structure InBs (W : World) (A : Option Addr) (n c : Nat) (P : List BV) : Prop where
  len_ : P.length = n
  lies : Lies sc 1 W A P
  ok : ∀ b ∈ P, Hol W b.A b.l ∧ b.l.length ≤ reachBytes ∧ b.l.length ≤ b.c
  reach : n ≤ reachBytes
theorem bss_in {A : Option Addr} {n c : Nat} {d : DataW H} {p : List MemPlace} (h : DataW.Trod enc Tryd.prog W base sp held 25 (.slice A n c) d p) (hw : Sized 25 d) : ∃ P, InBs W A n c P := by
  obtain ⟨fuel, hf⟩ := h
  obtain ⟨A', n', c', X, hc, hn, hl, hok, hr, hcap⟩ := list_cs noBV Tryd.underlying25 (of_decide_eq_true (by kernel_rfl)) (by kernel_rfl) (by decide) sc_len (fun fuel cs x hf hw => bv_cs hf hw) hf hw
  simp [Value.cells] at hc
  obtain ⟨rfl, rfl, rfl⟩ := hc
  exact ⟨X, hn.symm, hl, hok, hr⟩
end
theorem prE_cases (Bs : List (List UInt8)) : prE Bs = 0 ∨ prE Bs = 5 := by
  unfold prE
  split
  · exact .inl rfl
  · exact .inr rfl
theorem prL_len (Bs : List (List UInt8)) : (prL Bs).length ≤ 256 * Bs.length := by
  unfold prL
  split
  · exact prs_len Bs
  · simp
set_option maxHeartbeats 8000000 in
theorem parsesW (A : Option Addr) (n c : Nat) (P : List BV) (w : World) (hT : Tabs w) (I : InBs w A n c P) (hr : reachBytes ≤ 140737488355328) : Calls Tryd.prog 4 #[.slice A n c] w fun e w' => e = .returned (.bool true) ∧ Below w.heap.size w w' := by
  have HT := Lib.hid hT
  have HI := Lib.hid I
  have HN := Lib.hid (p := n ≤ 9223372036854775806 ∧ ∀ b ∈ P, b.l.length ≤ 140737488355328) ⟨by have := I.reach; omega, fun b hb => Nat.le_trans (I.ok b hb).2.1 hr⟩
  by_cases hbig : 100 < n
  · have hbi : (100 : Int) < (n : Int) := by omega
    clear hT I hbig
    go_enter Tryd.func4, Tryd.ntmps4
    go_wp2_with (go_at_call 9; refine (awake_any _ HT.out).mono ?_; rintro e w2 ⟨rfl, hb⟩
                 have B2 := Lib.hid hb
                 clear hb)
    go_ret
    exact ⟨rfl, B2.out⟩
  · have hbi : ¬ (100 : Int) < (n : Int) := by omega
    have HN100 := Lib.hid (p := n ≤ 100) (by omega)
    clear hT I hbig
    go_enter Tryd.func4, Tryd.ntmps4
    go_wp2_with (go_at_call 9; refine (awake_any _ HT.out).mono ?_; rintro e w2 ⟨rfl, hb⟩
                 have B2 := Lib.hid hb
                 clear hb)
    go_loopw [3] (fun x wr => ∃ k : Nat, Hid (k ≤ n) ∧ x = .int .i64 (k : Int) ∧ Hid (∀ j b, j < k → P[j]? = some b → b.l.length ≤ 2000) ∧ Hid (Below w.heap.size w wr)) (fun x _ => n - (intOf x).toNat)
    case atStart => exact ⟨0, Lib.hid (Nat.zero_le _), rfl, Lib.hid (fun j b hj => by omega), B2⟩
    case round =>
      clear B2
      obtain ⟨k, HKL, rfl, HLE, HB⟩ := hrel
      rename World => wr
      by_cases hk : k < n
      · have hki : (k : Int) < (n : Int) := by omega
        have hkw : IntKind.i64.wrap ((k : Int) + 1) = (k : Int) + 1 := by rw [IntKind.wrap_i64]; have := HN100.out; omega
        obtain ⟨x, hx⟩ : ∃ x, P[k]? = some x := ⟨_, List.getElem?_eq_getElem (by have := HI.out.len_; omega)⟩
        obtain ⟨g0, o0, rfl, hc⟩ := (HI.out.lies.below HB.out).at_ (List.getElem?_eq_some_iff.1 hx).1
        rw [(List.getElem?_eq_some_iff.1 hx).2] at hc
        obtain ⟨XA, xc, b⟩ := x
        have cx : wr.cell? ⟨g0, o0 + k, none⟩ = some (.slice XA b.length xc) := by have h9 := hc 0 _ rfl; simpa [bvv] using h9
        have HX := Lib.hid hx
        have HK := Lib.hid hk
        obtain ⟨bl, hbl⟩ : ∃ bl, b.length = bl := ⟨_, rfl⟩
        rw [hbl] at cx
        have HBL := Lib.hid hbl
        clear hc hx hk hbl
        by_cases h2 : 2000 < bl
        · have h2i : (2000 : Int) < (bl : Int) := by omega
          clear h2
          go_wp2
          go_ret
          exact ⟨rfl, HB.out⟩
        · have h2i : ¬ (2000 : Int) < (bl : Int) := by omega
          have H2 := Lib.hid (p := bl ≤ 2000) (by omega)
          clear h2
          go_wp2
          go_roundw
          case rel =>
            refine ⟨k + 1, Lib.hid HK.out, by go_num, Lib.hid (fun j z hj hz => ?_), HB⟩
            by_cases hjk : j < k
            · exact HLE.out j z hjk hz
            · obtain rfl : j = k := by omega
              have h1 := HX.out
              rw [hz] at h1
              injection h1 with h1
              subst h1
              show b.length ≤ 2000
              rw [HBL.out]
              exact H2.out
          case measure => have := HK.out; simp [intOf]; omega
      · have hke : k = n := by have := HKL.out; omega
        have hki : ¬ (k : Int) < (n : Int) := by omega
        have HALL := Lib.hid (p := ∀ b ∈ P, b.l.length ≤ 2000) (fun b hb => by
          obtain ⟨j, hj, rfl⟩ := List.mem_iff_getElem.1 hb
          exact HLE.out j _ (by have := HI.out.len_; omega) (List.getElem?_eq_getElem hj))
        have H1 := Lib.hid (p := ∀ W, Below w.heap.size w W → Calls Tryd.prog 15 #[.slice A n c] W (ParP W (prL (P.map (·.l))) (prE (P.map (·.l))))) (fun W hb => parse_any A n c P (by have := HN100.out; omega) HI.out.len_ W (HI.out.lies.below hb) (fun b hb2 => ⟨(HI.out.ok b hb2).1.below hb, HALL.out b hb2⟩) (tabs_below HT.out hb))
        have H2 := Lib.hid (p := ∀ W, Below w.heap.size w W → Calls Tryd.prog 16 #[.slice A n c] W (ParP W (prL (P.map (·.l))) (prE (P.map (·.l))))) (fun W hb => rparse_any A n c P (by have := HN100.out; omega) HI.out.len_ W (HI.out.lies.below hb) (fun b hb2 => ⟨(HI.out.ok b hb2).1.below hb, HALL.out b hb2, (HI.out.ok b hb2).2.2⟩))
        have HE := Lib.hid (prE_cases (P.map (·.l)))
        have HLL := Lib.hid (p := (prL (P.map (·.l))).length ≤ 100000) (by have h1 := prL_len (P.map (·.l)); rw [List.length_map, HI.out.len_] at h1; have := HN100.out; omega)
        obtain ⟨L, hL⟩ : ∃ L, prL (P.map (·.l)) = L := ⟨_, rfl⟩
        obtain ⟨er, her⟩ : ∃ e, prE (P.map (·.l)) = e := ⟨_, rfl⟩
        rw [hL, her] at H1 H2
        rw [her] at HE
        rw [hL] at HLL
        unfold ParP at H1 H2
        obtain ⟨m, hm⟩ : ∃ m, L.length = m := ⟨_, rfl⟩
        rw [hm] at H1 H2 HLL
        have HM := Lib.hid hm
        clear hk hke hL her hm
        go_wp2_with (first
          | (go_at_call 15; refine (H1.out _ HB.out).mono ?_; rintro e w3 ⟨A3, c3, rfl, ho, hb⟩
             have HO3 := Lib.hid ho
             have B3 := Lib.hid (below_nxt hb HB.out)
             clear ho hb H1)
          | (go_at_call 16; refine (H2.out _ B3.out).mono ?_; rintro e w4 ⟨A4, c4, rfl, ho, hb⟩
             have HO34 := Lib.hid (own_kept HO3.out hb)
             have HO4 := Lib.hid ho
             have B4 := Lib.hid (below_nxt hb B3.out)
             clear ho hb
             rcases HE.out with he | he
             all_goals subst he)
          | (go_at_call 14; refine (lists_same A3 A4 m c3 c4 L (by have := HLL.out; omega) HM.out _ (Lies.own (by decide) ecs_len HO34.out) (Lies.own (by decide) ecs_len HO4.out)).mono ?_; rintro e w5 ⟨rfl, hb⟩
             have B5 := Lib.hid (below_nxt hb B4.out)
             clear hb))
        · go_ret
          exact ⟨rfl, B5.out⟩
        · go_ret
          exact ⟨rfl, B5.out⟩
end Go.Proofs.YtijffkklhgnknaaDoor
