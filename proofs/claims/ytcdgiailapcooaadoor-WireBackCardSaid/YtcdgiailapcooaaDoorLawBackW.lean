/- What is put one behind the other is taken as it was, and nothing is left: the statement on WireBack, its card. Condition: the listed tables hold what the library's text lays. -/
import Derived.Test.YtcdgiailapcooaaDoorIn2
import Derived.Deep.RegionWith
import Derived.Test.YtcdgiailapcooaaDoorRef2
set_option linter.unusedVariables false
namespace Go.Proofs.YtcdgiailapcooaaDoor.wireBack
open Go.ChangeShapes Go.WideShapes Go.ChangeAt Go.RowKit
open Go.ChangeMaps (open_string shut_string)

/-- Numbers one behind the other; texts one behind the other. -/
def encN : List Nat → List UInt8
  | [] => []
  | x :: r => leb x 8 ++ leb (x % 65536) 2 ++ encN r
def encT : List ByteArray → List UInt8
  | [] => []
  | s :: r => leb s.size 2 ++ s.data.toList ++ encT r
theorem encN_snoc (a : List Nat) (x : Nat) : encN (a ++ [x]) = encN a ++ leb x 8 ++ leb (x % 65536) 2 := by
  induction a with
  | nil => simp [encN]
  | cons y r ih => simp [encN, ih]
theorem encT_snoc (a : List ByteArray) (s : ByteArray) : encT (a ++ [s]) = encT a ++ leb s.size 2 ++ s.data.toList := by
  induction a with
  | nil => simp [encT]
  | cons y r ih => simp [encT, ih]
theorem encN_len (a : List Nat) : (encN a).length = 10 * a.length := by
  induction a with
  | nil => rfl
  | cons y r ih => simp only [encN, List.length_append, leb_len, ih, List.length_cons]; omega
theorem encT_len (a : List ByteArray) (h : ∀ s ∈ a, s.size ≤ 1000) : (encT a).length ≤ 1002 * a.length := by
  induction a with
  | nil => simp [encT]
  | cons y r ih =>
    have h1 := ih (fun s hs => h s (by simp [hs]))
    have h2 := h y (by simp)
    rw [Lib.size_eq] at h2
    simp only [encT, List.length_append, leb_len, List.length_cons]
    omega
theorem nxt_app (a b : List UInt8) (bad : Bool) (n : Int) (h : n = a.length) : nxt n (a ++ b) bad = (a, b, bad) := by
  subst h
  unfold nxt
  rw [if_neg (by simp; omega), Int.toNat_natCast, List.take_left, List.drop_left]
theorem put8 (l : List UInt8) (x : Nat) (h : x < 18446744073709551616) : putR l 8 x = (l ++ leb x 8, 0) := by
  unfold putR
  rw [if_neg (by decide), if_neg]
  · rfl
  · intro e
    apply e
    exact Nat.div_eq_of_lt (by simpa using h)
theorem put2 (l : List UInt8) (x : Nat) (h : x < 65536) : putR l 2 x = (l ++ leb x 2, 0) := by
  rw [put2_of, if_neg (by omega)]
theorem nnx8 (x : Nat) (h : x < 18446744073709551616) (b : List UInt8) : nnx 8 (leb x 8 ++ b) false = (leb x 8, b, false) ∧ num (leb x 8) = x := by
  constructor
  · unfold nnx
    rw [if_neg (by decide)]
    exact nxt_app _ _ _ _ (by rw [leb_len]; rfl)
  · rw [num_leb]
    exact Nat.mod_eq_of_lt (by simpa using h)
theorem nnx2 (x : Nat) (h : x < 65536) (b : List UInt8) : nnx 2 (leb x 2 ++ b) false = (leb x 2, b, false) ∧ num (leb x 2) = x := by
  constructor
  · unfold nnx
    rw [if_neg (by decide)]
    exact nxt_app _ _ _ _ (by rw [leb_len]; rfl)
  · rw [num_leb]
    exact Nat.mod_eq_of_lt (by simpa using h)
theorem tnx_app (s b : List UInt8) (h : s.length < 65536) : tnx (leb s.length 2 ++ (s ++ b)) false = (s, b, false) := by
  unfold tnx
  rw [nxt_app (leb s.length 2) (s ++ b) false 2 (by rw [leb_len]; rfl)]
  simp only
  rw [num_leb, Nat.mod_eq_of_lt (by simpa using h)]
  exact nxt_app _ _ _ _ rfl

theorem take_next {α : Type} {l : List α} {k : Nat} {x : α} (h : l[k]? = some x) : l.take (k + 1) = l.take k ++ [x] := by
  obtain ⟨hk, rfl⟩ := List.getElem?_eq_some_iff.1 h
  exact List.take_succ_eq_append_getElem hk
theorem drop_next {α : Type} {l : List α} {k : Nat} {x : α} (h : l[k]? = some x) : l.drop k = x :: l.drop (k + 1) := by
  obtain ⟨hk, rfl⟩ := List.getElem?_eq_some_iff.1 h
  exact List.drop_eq_getElem_cons hk
theorem below_heap {B : Nat} {w a b : World} (h : Below B w a) (hh : b.heap = a.heap) (ho : b.os = a.os) (ht : b.tape = a.tape) (hu : b.output = a.output) : Below B w b :=
  ⟨ho.trans h.os, ht.trans h.tape, hu.trans h.output, by rw [hh]; exact h.size, fun k hk => by rw [hh]; exact h.block k hk⟩
theorem rem_cast (x : Nat) : (x : Int) % 65536 = ((x % 65536 : Nat) : Int) := by omega

set_option maxHeartbeats 2000000 in
theorem walk (a : Option Addr) (len cap : Nat) (ns : List Nat) (a2 : Option Addr) (len2 cap2 : Nat) (ts : List ByteArray) (w : World) (hn : InN w a len cap ns) (ht : InT w a2 len2 cap2 ts) (hT : Tabs w) :
    Calls Tryd.prog 6 #[.slice a len cap, .slice a2 len2 cap2] w fun e w' => e = .returned (.bool true) ∧ Below w.heap.size w w' := by
  obtain ⟨rfl, hA, hcap, hmax, hlt⟩ := hn
  obtain ⟨rfl, hA2, hcap2, hmax2, hlt2⟩ := ht
  unfold maxLen at hmax hmax2
  have hl63 : (ns.length : Int) ≤ 9223372036854775807 := by omega
  have hl63b : (ts.length : Int) ≤ 9223372036854775807 := by omega
  obtain ⟨N, hN, hN50, hNl⟩ : ∃ N : Nat, min (ns.length : Int) 50 = (N : Int) ∧ N ≤ 50 ∧ N ≤ ns.length := ⟨min ns.length 50, by omega, by omega, by omega⟩
  obtain ⟨M, hM, hM50, hMl⟩ : ∃ M : Nat, min (ts.length : Int) 50 = (M : Int) ∧ M ≤ 50 ∧ M ≤ ts.length := ⟨min ts.length 50, by omega, by omega, by omega⟩
  go_enter Tryd.func6, Tryd.ntmps6
  go_wp2_with fail
  refine (awake_any w hT).mono ?_
  rintro e w1 ⟨rfl, hb1⟩
  go_wp2
  clear hN hM
  go_loopw [5, 8] (fun b i wr => ∃ k : Nat, k ≤ N ∧ i = .int .i64 k ∧ (∃ A c, b = .slice A (encN (ns.take k)).length c ∧ Hol wr A (encN (ns.take k))) ∧ Below w.heap.size w wr) (fun _ i _ => N - (intOf i).toNat)
  case atStart => exact ⟨0, Nat.zero_le _, rfl, ⟨none, 0, rfl, .inl rfl⟩, hb1⟩
  case round =>
    obtain ⟨k, hk, rfl, ⟨A, c, rfl, hHol⟩, hbw⟩ := hrel
    by_cases hkN : k < N
    · have hkz : (k : Int) < (N : Int) := by omega
      have hkl : (k : Int) < (ns.length : Int) := by omega
      obtain ⟨x, hx⟩ : ∃ x, ns[k]? = some x := ⟨_, List.getElem?_eq_getElem (by omega)⟩
      have hx64 := hlt x (List.mem_of_getElem? hx)
      obtain ⟨g, o, rfl, _, hc⟩ := (hA.below hbw).at_ (j := k) (x := .int .u64 x) (by rw [List.getElem?_map, hx]; rfl)
      have hL0 : (encN (ns.take k)).length ≤ 10000 := by rw [encN_len, List.length_take]; omega
      have hL3 : encN (ns.take (k + 1)) = encN (ns.take k) ++ leb x 8 ++ leb (x % 65536) 2 := by rw [take_next hx, encN_snoc]
      generalize encN (ns.take k) = L0 at *
      generalize hE : encN (ns.take (k + 1)) = L3 at *
      have HE := Lib.hid hE
      clear hE
      have c1 := put_any A c L0 8 x wr hHol hx64 (by omega)
      rw [put8 L0 x hx64] at c1
      have hL1 : (L0 ++ leb x 8).length ≤ 20000 := by rw [List.length_append, leb_len]; omega
      generalize L0 ++ leb x 8 = L1 at *
      have HX := Lib.hid hx
      have HL3 := Lib.hid hL3
      clear hx hL3
      have C1 := Lib.hid c1
      clear c1
      go_wp2_with fail
      refine C1.out.mono ?_
      rintro e w2 ⟨v, rfl, hown2, hb2⟩
      replace hown2 : w2.ownsRow wr.heap.size 5 1 v L1.length (bc L1) := hown2
      obtain ⟨_, A3, c3, rfl, _, _, hA3⟩ := own_form hown2
      have hc2 := (hb2.cell (p := ⟨g, o + k, none⟩) (World.block_lt_of_cell? wr _ hc)).trans hc
      have c2 := put_any A3 c3 L1 2 (x % 65536) w2 hA3 (by omega) (by omega)
      rw [put2 L1 _ (by omega), ← HL3.out] at c2
      have C2 := Lib.hid c2
      clear c2 hown2
      go_wp2_with fail
      rw [rem_cast]
      refine C2.out.mono ?_
      rintro e w3 ⟨v, rfl, hown3, hb3⟩
      replace hown3 : w3.ownsRow w2.heap.size 5 1 v L3.length (bc L3) := hown3
      obtain ⟨_, A4, c4, rfl, _, _, hA4⟩ := own_form hown3
      have hbw3 := (hbw.trans (hb2.mono hbw.size)).trans (hb3.mono (hbw.trans (hb2.mono hbw.size)).size)
      go_wp2
      go_roundw
      case rel => exact ⟨k + 1, by omega, by go_num, ⟨A4, c4, by rw [HE.out], by rw [HE.out]; exact hA4⟩, hbw3⟩
      case measure => simp [intOf]; omega
    · have hkN2 : k = N := by omega
      subst hkN2
      have hkz : ¬ (k : Int) < (k : Int) := by omega
      generalize hNS : ns.take k = NS at *
      have HNS := Lib.hid hNS
      clear hNS hkN
      have hNSl : NS.length = k := by rw [← HNS.out, List.length_take]; omega
      have hNlen : (encN NS).length ≤ 10000 := by rw [encN_len]; omega
      have HNL := Lib.hid hNSl
      clear hNSl
      go_wp2
      go_loopw [5, 9] (fun b i wr => ∃ j : Nat, j ≤ M ∧ i = .int .i64 j ∧ (∀ s ∈ ts.take j, s.size ≤ 1000) ∧ (∃ A c, b = .slice A (encN NS ++ encT (ts.take j)).length c ∧ Hol wr A (encN NS ++ encT (ts.take j))) ∧ Below w.heap.size w wr) (fun _ i _ => M - (intOf i).toNat)
      case atStart => exact ⟨0, Nat.zero_le _, rfl, by simp, ⟨A, c, by simp [encT], by simpa [encT] using hHol⟩, hbw⟩
      case round =>
        obtain ⟨j, hj, rfl, hsm, ⟨A5, c5, rfl, hHol5⟩, hbw5⟩ := hrel
        by_cases hjM : j < M
        · have hjz : (j : Int) < (M : Int) := by omega
          have hjl : (j : Int) < (ts.length : Int) := by omega
          obtain ⟨s, hs⟩ : ∃ s, ts[j]? = some s := ⟨_, List.getElem?_eq_getElem (by omega)⟩
          have hsmax := hlt2 s (List.mem_of_getElem? hs)
          unfold maxLen at hsmax
          obtain ⟨g, o, rfl, _, hc⟩ := (hA2.below hbw5).at_ (j := j) (x := .string s) (by rw [List.getElem?_map, hs]; rfl)
          by_cases h1000 : 1000 < s.size
          · have hz1 : (1000 : Int) < (s.size : Int) := by omega
            clear hs hsm
            go_wp2
            go_ret
            exact ⟨rfl, hbw5⟩
          · have hz1 : ¬ (1000 : Int) < (s.size : Int) := by omega
            have hTl : (encT (ts.take j)).length ≤ 1002 * (ts.take j).length := encT_len _ hsm
            have hL5 : (encN NS ++ encT (ts.take j)).length ≤ 100000 := by
              rw [List.length_append]
              have : (ts.take j).length ≤ 50 := by rw [List.length_take]; omega
              omega
            have hL6 : encN NS ++ encT (ts.take (j + 1)) = encN NS ++ encT (ts.take j) ++ leb s.size 2 ++ s.data.toList := by
              rw [take_next hs, encT_snoc, List.append_assoc, List.append_assoc, List.append_assoc]
            have hsm2 : ∀ q ∈ ts.take (j + 1), q.size ≤ 1000 := by
              rw [take_next hs]
              intro q hq
              rcases List.mem_append.1 hq with hq | hq
              · exact hsm q hq
              · rw [List.mem_singleton.1 hq]; omega
            have c1 := txt_any A5 c5 (encN NS ++ encT (ts.take j)) s wr hHol5 (by omega) (by omega)
            have ht : txtR (encN NS ++ encT (ts.take j)) s.data.toList = (encN NS ++ encT (ts.take (j + 1)), 0) := by
              unfold txtR
              rw [if_neg (by rw [← Lib.size_eq]; omega), hL6, ← Lib.size_eq]
            rw [ht] at c1
            generalize encN NS ++ encT (ts.take j) = L5 at *
            generalize hE : encN NS ++ encT (ts.take (j + 1)) = L6 at *
            have HE := Lib.hid hE
            have HS := Lib.hid hs
            have HM := Lib.hid hsm2
            have C1 := Lib.hid c1
            clear hE hs hsm hsm2 ht hL6 c1 hTl
            go_wp2_with fail
            refine C1.out.mono ?_
            rintro e w2 ⟨v, rfl, hown2, hb2⟩
            replace hown2 : w2.ownsRow wr.heap.size 5 1 v L6.length (bc L6) := hown2
            obtain ⟨_, A6, c6, rfl, _, _, hA6⟩ := own_form hown2
            have hbw6 := hbw5.trans (hb2.mono hbw5.size)
            go_wp2
            go_roundw
            case rel => exact ⟨j + 1, by omega, by go_num, HM.out, ⟨A6, c6, by rw [HE.out], by rw [HE.out]; exact hA6⟩, hbw6⟩
            case measure => simp [intOf]; omega
        · have hjM2 : j = M := by omega
          subst hjM2
          have hjz : ¬ (j : Int) < (j : Int) := by omega
          generalize hTS : ts.take j = TS at *
          have HTS := Lib.hid hTS
          clear hTS hjM
          have hTSl : TS.length = j := by rw [← HTS.out, List.length_take]; omega
          have hTl : (encT TS).length ≤ 1002 * TS.length := encT_len _ hsm
          have hL5 : (encN NS ++ encT TS).length ≤ 100000 := by
            rw [List.length_append]
            omega
          have HTL := Lib.hid hTSl
          have HSM := Lib.hid hsm
          clear hTSl hTl hsm
          have c1 := new_any A5 c5 (encN NS ++ encT TS) wr hHol5 (by omega)
          generalize hALL : encN NS ++ encT TS = ALL at *
          have HALL := Lib.hid hALL
          have C1 := Lib.hid c1
          clear hALL c1
          go_wp2_with fail
          refine C1.out.mono ?_
          rintro e w7 ⟨gc, rfl, hgc, hcur, hb7⟩
          have hbw7 := hbw5.trans (hb7.mono hbw5.size)
          have hgw : w.heap.size ≤ gc := by have := hbw5.size; omega
          clear hHol hHol5 hb7
          go_wp2
          go_loopw [11] (fun i wq => ∃ q : Nat, q ≤ k ∧ i = .int .i64 q ∧ Cur wq gc (encN (NS.drop q) ++ encT TS) false ∧ Below w.heap.size w wq) (fun i _ => k - (intOf i).toNat)
          case atStart => exact ⟨0, Nat.zero_le _, rfl, by rw [List.drop_zero, HALL.out]; exact hcur, hbw7⟩
          case round =>
            obtain ⟨q, hq, rfl, hcq, hbq⟩ := hrel
            by_cases hqk : q < k
            · have hqz : (q : Int) < (k : Int) := by omega
              have hql : (q : Int) < (ns.length : Int) := by omega
              obtain ⟨x, hx⟩ : ∃ x, NS[q]? = some x := ⟨_, List.getElem?_eq_getElem (by rw [HNL.out]; exact hqk)⟩
              have hxn : ns[q]? = some x := by
                have := hx
                rw [← HNS.out, List.getElem?_take, if_pos hqk] at this
                exact this
              have hx64 := hlt x (List.mem_of_getElem? hxn)
              obtain ⟨g, o, rfl, hgl, hc⟩ := (hA.below hbq).at_ (j := q) (x := .int .u64 x) (by rw [List.getElem?_map, hxn]; rfl)
              have hgs : g < w.heap.size := by
                obtain ⟨g', o', e1, e2, _⟩ := hA.at_ (j := q) (x := .int .u64 x) (by rw [List.getElem?_map, hxn]; rfl)
                injection e1 with e1
                injection e1 with e1 _
                rw [e1]
                exact e2
              have hne : some g ≠ some gc := by
                intro e
                injection e with e
                omega
              have hR1 : encN (NS.drop q) ++ encT TS = leb x 8 ++ (leb (x % 65536) 2 ++ (encN (NS.drop (q + 1)) ++ encT TS)) := by
                rw [drop_next hx]
                simp [encN]
              have hR0 : (encN (NS.drop q) ++ encT TS).length ≤ 100000 := by
                have h1 : (encN (NS.drop q)).length ≤ (encN NS).length := by rw [encN_len, encN_len, List.length_drop]; omega
                have h2 : (encN NS ++ encT TS).length ≤ 100000 := by rw [HALL.out]; exact hL5
                rw [List.length_append] at h2 ⊢
                omega
              rw [hR1] at hcq hR0
              generalize hE : encN (NS.drop (q + 1)) ++ encT TS = R2 at *
              have HE := Lib.hid hE
              have hR3 : (leb (x % 65536) 2 ++ R2).length ≤ 100000 := by simp only [List.length_append, leb_len] at hR0 ⊢; omega
              have c8 : Hid (∀ W, Cur W gc (leb x 8 ++ (leb (x % 65536) 2 ++ R2)) false → Calls Tryd.prog 22 #[.pointer (some ⟨gc, 0, none⟩), .int .i64 8] W (fun e w' => e = .returned (.int .u64 (x : Int)) ∧ Cur w' gc (leb (x % 65536) 2 ++ R2) false ∧ W.grownBy w' (some gc))) := by
                refine Lib.hid fun W hW => ?_
                have := num_any gc _ false 8 W hW (by omega)
                rw [(nnx8 x hx64 _).1] at this
                unfold NumPost at this
                simp only [(nnx8 x hx64 []).2] at this
                exact this
              have c2 : Hid (∀ W, Cur W gc (leb (x % 65536) 2 ++ R2) false → Calls Tryd.prog 22 #[.pointer (some ⟨gc, 0, none⟩), .int .i64 2] W (fun e w' => e = .returned (.int .u64 ((x : Int) % 65536)) ∧ Cur w' gc R2 false ∧ W.grownBy w' (some gc))) := by
                refine Lib.hid fun W hW => ?_
                have := num_any gc _ false 2 W hW (by omega)
                rw [(nnx2 (x % 65536) (by omega) _).1] at this
                unfold NumPost at this
                simp only [(nnx2 (x % 65536) (by omega) []).2] at this
                rw [rem_cast]
                exact this
              have HNE := Lib.hid hne
              have htm : (x : Int).tmod 65536 = (x : Int) % 65536 := Int.tmod_eq_emod_of_nonneg (by omega)
              clear hE hR0 hR3 hR1 hx hxn hgl
              go_wp2_with fail
              go_region_with (first
                | (go_at_call_of 22 (Value.int IntKind.i64 8); refine (c8.out _ (by exact hcq)).mono ?_; rintro e w8 ⟨rfl, hcq8, hg8⟩; have hc8 := hg8.cell hc HNE.out)
                | (go_at_call_of 22 (Value.int IntKind.i64 2); refine (c2.out _ (by exact hcq8)).mono ?_; rintro e w9 ⟨rfl, hcq9, hg9⟩; have hc9 := hg9.cell hc8 HNE.out))
              all_goals
                have hb8 : Below w.heap.size w w8 := Below.grown (h := by exact below_heap hbq rfl rfl rfl rfl) (hg := hg8) (hB := hbq.size) (hr := fun k hk => by injection hk with hk; omega)
                have hb9 : Below w.heap.size w w9 := Below.grown (h := by exact below_heap hb8 rfl rfl rfl rfl) (hg := hg9) (hB := hb8.size) (hr := fun k hk => by injection hk with hk; omega)
                clear hg8 hg9 c8 c2 hcq hcq8 hc hc8 hc9
                go_wp2
                go_roundw
                case rel => exact ⟨q + 1, by omega, by go_num, by rw [HE.out]; exact hcq9, by exact below_heap hb9 rfl rfl rfl rfl⟩
                case measure => simp [intOf]; omega
            · have hqk2 : q = k := by omega
              subst hqk2
              have hqz : ¬ (q : Int) < (q : Int) := by omega
              have hcT : Cur wr gc (encT TS) false := by
                have h0 := hcq
                rw [List.drop_eq_nil_of_le (by rw [HNL.out]; exact Nat.le_refl _)] at h0
                exact h0
              have hTl : (encT TS).length ≤ 100000 := by
                have h2 : (encN NS ++ encT TS).length ≤ 100000 := by rw [HALL.out]; exact hL5
                rw [List.length_append] at h2
                omega
              clear hcq
              go_wp2
              go_loopw [12] (fun i wz => ∃ z : Nat, z ≤ j ∧ i = .int .i64 z ∧ Cur wz gc (encT (TS.drop z)) false ∧ (encT (TS.drop z)).length ≤ 100000 ∧ Below w.heap.size w wz) (fun i _ => j - (intOf i).toNat)
              case atStart => exact ⟨0, Nat.zero_le _, rfl, by rw [List.drop_zero]; exact hcT, by rw [List.drop_zero]; exact hTl, hbq⟩
              case round =>
                obtain ⟨z, hz, rfl, hcz, hzl, hbz⟩ := hrel
                by_cases hzj : z < j
                · have hzz : (z : Int) < (j : Int) := by omega
                  have hzt : (z : Int) < (ts.length : Int) := by omega
                  obtain ⟨s, hs⟩ : ∃ s, TS[z]? = some s := ⟨_, List.getElem?_eq_getElem (by rw [HTL.out]; exact hzj)⟩
                  have hsn : ts[z]? = some s := by
                    have := hs
                    rw [← HTS.out, List.getElem?_take, if_pos hzj] at this
                    exact this
                  have hs1000 := HSM.out s (List.mem_of_getElem? hs)
                  obtain ⟨g, o, rfl, hgl, hc⟩ := (hA2.below hbz).at_ (j := z) (x := .string s) (by rw [List.getElem?_map, hsn]; rfl)
                  have hgs : g < w.heap.size := by
                    obtain ⟨g', o', e1, e2, _⟩ := hA2.at_ (j := z) (x := .string s) (by rw [List.getElem?_map, hsn]; rfl)
                    injection e1 with e1
                    injection e1 with e1 _
                    rw [e1]
                    exact e2
                  have hne : some g ≠ some gc := by
                    intro e
                    injection e with e
                    omega
                  have hR1 : encT (TS.drop z) = leb s.data.toList.length 2 ++ (s.data.toList ++ encT (TS.drop (z + 1))) := by
                    rw [drop_next hs, ← Lib.size_eq]
                    simp [encT]
                  rw [hR1] at hcz hzl
                  generalize hE : encT (TS.drop (z + 1)) = R2 at *
                  have HE := Lib.hid hE
                  have hR2 : R2.length ≤ 100000 := by simp only [List.length_append] at hzl; omega
                  have cT : Hid (∀ W, Cur W gc (leb s.data.toList.length 2 ++ (s.data.toList ++ R2)) false → Calls Tryd.prog 20 #[.pointer (some ⟨gc, 0, none⟩)] W (fun e w' => e = .returned (.string s) ∧ Cur w' gc R2 false ∧ W.grownBy w' (some gc))) := by
                    refine Lib.hid fun W hW => ?_
                    have := text_any gc _ false W hW (by omega)
                    rw [tnx_app s.data.toList R2 (by rw [← Lib.size_eq]; omega)] at this
                    unfold TextPost at this
                    simp only [Lib.mk_data] at this
                    exact this
                  have HNE := Lib.hid hne
                  clear hE hzl hR1 hs hsn hgl
                  go_wp2_with fail
                  go_region_with (go_at_call 20; refine (cT.out _ (by exact hcz)).mono ?_; rintro e w8 ⟨rfl, hcq8, hg8⟩; have hc8 := hg8.cell hc HNE.out)
                  all_goals
                    have hb8 : Below w.heap.size w w8 := Below.grown (h := by exact below_heap hbz rfl rfl rfl rfl) (hg := hg8) (hB := hbz.size) (hr := fun k hk => by injection hk with hk; omega)
                    clear hg8 cT hcz hc hc8
                    go_wp2
                    go_roundw
                    case rel => exact ⟨z + 1, by omega, by go_num, by rw [HE.out]; exact hcq8, by rw [HE.out]; exact hR2, by exact below_heap hb8 rfl rfl rfl rfl⟩
                    case measure => simp [intOf]; omega
                · have hzj2 : z = j := by omega
                  subst hzj2
                  have hzz : ¬ (z : Int) < (z : Int) := by omega
                  have hc0 : Cur wr gc [] false := by
                    have h0 := hcz
                    rw [List.drop_eq_nil_of_le (by rw [HTL.out]; exact Nat.le_refl _)] at h0
                    exact h0
                  clear hcz
                  go_wp2_with fail
                  refine (bad_any gc [] false wr hc0).mono ?_
                  rintro e w' ⟨rfl, rfl⟩
                  go_wp2_with fail
                  refine (left_any gc [] false wr hc0).mono ?_
                  rintro e w' ⟨rfl, rfl⟩
                  go_wp2
                  go_ret
                  exact ⟨rfl, hbz⟩
end Go.Proofs.YtcdgiailapcooaaDoor.wireBack
