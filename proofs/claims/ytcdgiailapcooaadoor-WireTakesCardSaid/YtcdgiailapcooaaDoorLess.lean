/- The order of texts, by the program, for every two texts. Condition: the library's two tables hold what their initialisers lay. -/
import Derived.Test.YtcdgiailapcooaaDoorNames
set_option linter.unusedVariables false
namespace Go.Proofs.YtcdgiailapcooaaDoor
open Go.RowKit

theorem tabs_below {w w' : World} (h : Tabs w) (hb : Below w.heap.size w w') : Tabs w' := Utf8Tabs_below h hb
theorem decode_go (t : ByteArray) (h : t.data.toList ≠ []) : Lib.decodeGo t = Lib.decodeL t.data.toList := by
  have hs : t.size ≠ 0 := by
    intro e
    apply h
    have := Lib.size_eq t
    exact List.eq_nil_of_length_eq_zero (by omega)
  unfold Lib.decodeGo
  rw [if_neg hs]
  have := Lib.decodeL_drop t 0
  rw [List.drop_zero] at this
  exact this.symm
theorem dl_empty (l : List UInt8) : dl l = [] ↔ l = [] := by
  constructor
  · intro h
    by_cases hl : l = []
    · exact hl
    · rw [dl_step l hl] at h
      cases h
  · rintro rfl
    rfl

theorem next_above {w wr : World} {a : ByteArray} {p q : Nat} (hk : wr.heap[w.heap.size]? = some (.stringIter a p)) (hb : Below w.heap.size w wr) :
    Below w.heap.size w (wr.iterAt w.heap.size a q) ∧ (wr.iterAt w.heap.size a q).heap[w.heap.size]? = some (.stringIter a q) :=
  ⟨Lib.below_iterAt hb (Nat.le_refl _) a q, Lib.iterAt_heap wr _ a p q hk⟩
theorem iter_kept {w W : World} {o : Obj} {k : Nat} (hk : w.heap[k]? = some o) (hb : Below w.heap.size w W) : W.heap[k]? = some o :=
  (hb.block k (Array.getElem?_eq_some_iff.1 hk).1).trans hk

set_option maxHeartbeats 400000 in
theorem less_any (a b : ByteArray) (w : World) (ha : a.size ≤ 9223372036854775807) (hb : b.size ≤ 9223372036854775807) (hT : Tabs w) :
    Calls Tryd.prog 27 #[.string a, .string b] w fun e w' => e = .returned (.bool (lessD a.data.toList b.data.toList)) ∧ Below w.heap.size w w' := by
  obtain ⟨ANS, hA⟩ : ∃ ANS, lessD a.data.toList b.data.toList = ANS := ⟨_, rfl⟩
  rw [hA]
  have HA := Lib.hid hA
  clear hA
  go_enter Tryd.func27, Tryd.ntmps27
  go_wp2
  go_loopw [1] (fun sb wr => ∃ (pos : Nat) (t : ByteArray), sb = .string t ∧ wr.heap[w.heap.size]? = some (.stringIter a pos) ∧ Below w.heap.size w wr ∧ t.size ≤ 9223372036854775807 ∧ Hid (lex (dl (a.data.toList.drop pos)) (dl t.data.toList) = ANS))
    (fun _ wr => a.size - wr.iterPos w.heap.size)
  case atStart => exact ⟨0, b, rfl, World.iter_heap w a 0, below_iter (Below.refl _ _) (Nat.le_refl _) a 0, hb, Lib.hid HA.out⟩
  case round =>
    obtain ⟨pos, t, rfl, hk, hbw, hts, hans⟩ := hrel
    by_cases hp : pos < a.size
    · obtain ⟨hbw2, hk2⟩ := next_above (q := pos + (Utf8.decode a pos).2) hk hbw
      have hnx : ∀ ty, (Instr.next (.pointer (some ⟨w.heap.size, 0, none⟩)) true ty).run Tryd.prog wr = _ := fun ty => Lib.run_next_any_at wr w.heap.size a pos ty hk hp
      have hne : a.data.toList.drop pos ≠ [] := by
        intro e
        have := congrArg List.length e
        rw [List.length_drop, ← Lib.size_eq] at this
        simp at this
        omega
      have hdd := Lib.decodeL_drop a pos
      have hst := dl_step _ hne
      rw [hdd] at hst
      have hc := Lib.rune_le a pos
      have hwd := Lib.width_pos a pos
      have hit := iterPos_of hk
      clear hdd hne
      generalize hd : Utf8.decode a pos = d at *
      obtain ⟨c, n⟩ := d
      replace hc : c ≤ 1114111 := hc
      replace hwd : 1 ≤ n := hwd
      replace hbw2 : Below w.heap.size w (wr.iterAt w.heap.size a (pos + n)) := hbw2
      replace hk2 : (wr.iterAt w.heap.size a (pos + n)).heap[w.heap.size]? = some (.stringIter a (pos + n)) := hk2
      replace hst : dl (a.data.toList.drop pos) = c :: dl (a.data.toList.drop (pos + n)) := by rw [hst, List.drop_drop]
      have HST := Lib.hid hst
      have HIT := Lib.hid hit
      have HK := Lib.hid hk
      have HK2 := Lib.hid hk2
      clear hst hd hit hk hk2
      replace hnx : ∀ ty, (Instr.next (.pointer (some ⟨w.heap.size, 0, none⟩)) true ty).run Tryd.prog wr = .ok (.tuple #[.bool true, .int .i64 pos, .int .i32 c]) (wr.iterAt w.heap.size a (pos + n)) := hnx
      generalize wr.iterAt w.heap.size a (pos + n) = w2 at *
      by_cases ht : t.data.toList = []
      · have k1 := isEmpty_eq ht
        have hA : ANS = false := by
          rw [← hans.out, HST.out, ht]
          rfl
        subst hA
        clear ht
        go_wp2
        go_ret
        exact ⟨rfl, hbw2⟩
      · have k1 := isEmpty_ne ht
        have cD := Tryd.utf8_DecodeRuneInString t w2 (tabs_below hT hbw2)
        rw [decode_go t ht] at cD
        have hst2 := dl_step _ ht
        have hfit := decodeL_fits _ ht
        have hr2 := Lib.decodeL_rune t.data.toList
        rw [← Lib.size_eq] at hfit
        generalize Lib.decodeL t.data.toList = d2 at *
        obtain ⟨c2, n2⟩ := d2
        replace hfit : n2 ≤ t.size := hfit
        replace hr2 : c2 ≤ 1114111 := hr2
        replace cD : Calls Tryd.prog 37 #[.string t] w2 fun e w' => e = .returned (.tuple #[.int .i32 c2, .int .i64 n2]) ∧ Below w2.heap.size w2 w' := cD
        have HST2 := Lib.hid hst2
        clear hst2 ht
        have CD := Lib.hid cD
        clear cD
        by_cases hcc : c = c2
        · subst hcc
          go_wp2_with (go_at_call 37; refine CD.out.mono ?_; rintro e w3 ⟨rfl, hb3⟩)
          have hans2 : Hid (lex (dl (a.data.toList.drop (pos + n))) (dl (t.extract n2 t.size).data.toList) = ANS) := by
            have := hans.out
            rw [HST.out, HST2.out] at this
            unfold lex at this
            rw [if_neg (fun h => h rfl)] at this
            rw [Lib.extract_to_end]
            exact this
          have hsz2 : (t.extract n2 t.size).size ≤ 9223372036854775807 := by
            rw [Lib.size_eq, Lib.extract_to_end, List.length_drop, ← Lib.size_eq]
            omega
          have hk3 := iter_kept HK2.out hb3
          go_roundw
          case rel => exact ⟨pos + n, t.extract n2 t.size, rfl, hk3, hbw2.trans (hb3.mono hbw2.size), hsz2, hans2⟩
          case measure =>
            rw [iterPos_of hk3, HIT.out]
            omega
        · have hcb : ((c : Int) != (c2 : Int)) = true := by rw [bne_iff_ne]; omega
          have hA : ANS = decide (c < c2) := by
            rw [← hans.out, HST.out, HST2.out]
            unfold lex
            rw [if_pos hcc]
          subst hA
          clear hcc
          go_wp2_with (go_at_call 37; refine CD.out.mono ?_; rintro e w3 ⟨rfl, hb3⟩)
          go_ret
          exact ⟨rfl, hbw2.trans (hb3.mono hbw2.size)⟩
    · have hnx : ∀ ty, (Instr.next (.pointer (some ⟨w.heap.size, 0, none⟩)) true ty).run Tryd.prog wr = _ := fun ty => Lib.run_next_end_at wr w.heap.size a pos ty hk hp
      have HK := Lib.hid hk
      clear hk
      by_cases ht : t.data.toList = []
      · have k1 := isEmpty_eq ht
        have hA : ANS = false := by
          rw [← hans.out, List.drop_eq_nil_of_le (by rw [← Lib.size_eq]; omega), ht]
          rfl
        subst hA
        clear ht
        go_wp2
        go_ret
        exact ⟨rfl, hbw⟩
      · have k1 := isEmpty_ne ht
        have hA : ANS = true := by
          rw [← hans.out, List.drop_eq_nil_of_le (by rw [← Lib.size_eq]; omega), dl_step _ ht]
          rfl
        subst hA
        clear ht
        go_wp2
        go_ret
        exact ⟨rfl, hbw⟩
end Go.Proofs.YtcdgiailapcooaaDoor
