/- What a directory tells: the entries behind a cookie, in order, as many as there is room for. Conditions: no more than a million, names no longer than 2^32. -/
import Derived.Test.YtijffkklhgnknaaDoorQp
set_option linter.unusedVariables false
set_option maxRecDepth 20000
namespace Go.Proofs.YtijffkklhgnknaaDoor
open Go.RowKit

/-- How many entries of a list there is room for. -/
def fit : Int → List Ent → Nat
  | _, [] => 0
  | r, e :: t => if r < 24 + (e.nm.size : Int) then 0 else fit (r - (24 + (e.nm.size : Int))) t + 1
theorem fit_le : ∀ (r : Int) (L : List Ent), fit r L ≤ L.length
  | _, [] => Nat.le_refl _
  | r, e :: t => by
    unfold fit
    split
    · exact Nat.zero_le _
    · have := fit_le (r - (24 + (e.nm.size : Int))) t
      rw [List.length_cons]
      omega
theorem fit_no {r : Int} {L : List Ent} {k : Nat} {x : Ent} (hx : L[k]? = some x) (h : r < 24 + (x.nm.size : Int)) : fit r (L.drop k) = 0 := by
  obtain ⟨hk, hy⟩ := List.getElem?_eq_some_iff.1 hx
  rw [List.drop_eq_getElem_cons hk, hy]
  unfold fit
  rw [if_pos h]
theorem fit_yes {r : Int} {L : List Ent} {k : Nat} {x : Ent} (hx : L[k]? = some x) (h : ¬ r < 24 + (x.nm.size : Int)) : fit r (L.drop k) = fit (r - (24 + (x.nm.size : Int))) (L.drop (k + 1)) + 1 := by
  obtain ⟨hk, hy⟩ := List.getElem?_eq_some_iff.1 hx
  rw [List.drop_eq_getElem_cons hk, hy]
  conv => lhs; unfold fit
  rw [if_neg h]
theorem fit_nil (r : Int) : fit r [] = 0 := by unfold fit; rfl
/-- The front of a row of the call's own. -/
theorem own_front {w : World} {b n c k : Nat} {A : Option Addr} {xs : List Ent} (h : w.ownsRow b 42 5 (.slice A n c) n (xs.flatMap ecs)) (hk : k ≤ n) : w.ownsRow b 42 5 (.slice A k c) k ((xs.take k).flatMap ecs) := by
  have hl := h.1
  rw [flat_len ecs_len] at hl
  have hx : xs.length = n := by omega
  have e1 : ((xs.take k).flatMap ecs).length = k * 5 := by rw [flat_len ecs_len, List.length_take]; omega
  have e2 : xs.flatMap ecs = (xs.take k).flatMap ecs ++ (xs.drop k).flatMap ecs := by rw [← List.flatMap_append, List.take_append_drop]
  refine ⟨e1, ?_⟩
  rcases h.2 with ⟨h1, h2⟩ | ⟨g, cap, cur, h1, hb, hg, hn, hc, hs, ht⟩
  · simp only [Value.slice.injEq] at h1
    obtain ⟨rfl, _, rfl⟩ := h1
    have h0 : k = 0 := by omega
    subst h0
    exact .inl ⟨rfl, rfl⟩
  · simp only [Value.slice.injEq] at h1
    obtain ⟨rfl, _, rfl⟩ := h1
    refine .inr ⟨g, c, cur, rfl, hb, hg, by omega, hc, hs, ?_⟩
    have h3 : (cur.toList.take (n * 5)).take (k * 5) = cur.toList.take (k * 5) := by
      rw [List.take_take]
      congr 1
      have := Nat.mul_le_mul_right 5 hk
      omega
    rw [← h3, ht, e2, ← e1]
    exact List.take_left' rfl
set_option maxHeartbeats 2000000 in
theorem told_any (A : Option Addr) (n c after : Nat) (room : Int) (X : List Ent) (hmax : n ≤ 1000000) (w : World) (h : Lies ecs 5 w A X) (hn : X.length = n) (hnm : ∀ e ∈ X, e.nm.size ≤ 4294967296) (hlo : -9223372036854775808 ≤ room) (hhi : room ≤ 9223372036854775807) :
    Calls Tryd.prog 17 #[.slice A n c, .int .u32 (after : Int), .int .i64 room] w fun e w' => ∃ A' c' k L, e = .returned (.slice A' k c') ∧ w'.ownsRow w.heap.size 42 5 (.slice A' k c') k ((L.take k).flatMap ecs) ∧ k = fit room L ∧ Ord Ent.ck L ∧ SameK Ent.ck (X.filter (fun e : Ent => decide (after < e.ck))) L ∧ Below w.heap.size w w' := by
  have hmf : ∀ (fn : Fn) (first cap : Array Value) (w : World), (Instr.makeFunc fn first cap).run Tryd.prog w = .ok (.func fn first cap) w := fun _ _ _ _ => rfl
  have H := Lib.hid h
  have HN := Lib.hid (And.intro hmax hn)
  have HNM := Lib.hid hnm
  have HRM := Lib.hid (And.intro hlo hhi)
  clear h hmax hn hnm hlo hhi
  go_enter Tryd.func17, Tryd.ntmps17
  go_wp2_with (first
    | (refine step_box1 rfl 35 _ rfl (.int .u32 (after : Int)) rfl rfl ?_; intro g2 w2 hr2 hg2 hb2
       have HC := Lib.hid (p := w2.cell? ⟨g2, 0, none⟩ = some (.int .u32 (after : Int))) ((hr2.cell 0).trans rfl)
       have HB := Lib.hid hb2
       clear hr2 hg2 hb2)
    | (go_at_call 34; refine (kept_told g2 after A n c X HN.out.1 _ (H.out.below HB.out) HN.out.2 HC.out).mono ?_; rintro e w3 ⟨A3, m, c3, rfl, ho, hm, hb⟩
       have HO3 := Lib.hid ho
       have HM3 := Lib.hid hm
       have HB3 := Lib.hid (below_nxt hb HB.out)
       clear ho hm hb)
    | (go_at_call 33; refine (bycookies_any A3 m c3 (X.filter (fun e : Ent => decide (after < e.ck))) (by have := HM3.out; have := HN.out; omega) _ (Lies.own (by decide) ecs_len HO3.out) (by have h1 := HO3.out.1; rw [flat_len ecs_len] at h1; omega)).mono ?_; rintro e w4 ⟨A4, c4, L, rfl, ho, hord, hs, hb⟩
       have HO4 := Lib.hid (own_lower ho HB3.out.size)
       have HL4 := Lib.hid (And.intro hord hs)
       have HB4 := Lib.hid (below_nxt hb HB3.out)
       have HLL := Lib.hid (p := L.length = m) (by have h1 := ho.1; rw [flat_len ecs_len] at h1; omega)
       clear ho hord hs hb))
  go_loopw [2, 17] (fun x y wr => ∃ (k : Nat) (r : Int), y = .int .i64 (k : Int) ∧ x = .int .i64 r ∧ Hid (k ≤ m ∧ fit room L = k + fit r (L.drop k)) ∧ Hid (-9223372036854775808 ≤ r ∧ r ≤ 9223372036854775807) ∧ Hid (Below w4.heap.size w4 wr)) (fun _ y _ => m - (intOf y).toNat)
  case atStart => exact ⟨0, room, rfl, rfl, Lib.hid ⟨Nat.zero_le _, by simp⟩, HRM, Lib.hid (Below.refl _ _)⟩
  case round =>
    obtain ⟨k, r, rfl, rfl, HK, HR, HBR⟩ := hrel
    rename World => wr
    by_cases hk : k < m
    · have hki : (k : Int) < (m : Int) := by omega
      have hkw : IntKind.i64.wrap ((k : Int) + 1) = (k : Int) + 1 := by rw [IntKind.wrap_i64]; have := HN.out; have := HM3.out; omega
      have hkx : k < L.length := by have := HLL.out; omega
      rcases own_er HO4.out with ⟨_, h0, _⟩ | ⟨g4, Z, rfl, _, hr4, _⟩
      · omega
      obtain ⟨x, hx⟩ : ∃ x, L[k]? = some x := ⟨_, List.getElem?_eq_getElem hkx⟩
      have HX := Lib.hid hx
      have HAT := Lib.hid ((hr4.kept HBR.out).at_ hx)
      have hsz : x.nm.size ≤ 4294967296 := HNM.out x (List.mem_filter.1 ((HL4.out.2.mem x).1 (List.mem_of_getElem? hx))).1
      obtain ⟨s, hs⟩ : ∃ s : Nat, x.nm.size = s := ⟨_, rfl⟩
      have hsw : IntKind.i64.wrap (24 + (s : Int)) = 24 + (s : Int) := by rw [IntKind.wrap_i64]; omega
      have HS := Lib.hid (And.intro hs (show s ≤ 4294967296 by omega))
      have HKK := Lib.hid hk
      clear hk hkx hr4 hx hsz
      by_cases hf : r < 24 + (s : Int)
      · have HF := Lib.hid hf
        have hcap : (k : Int) ≤ (c4 : Int) := by
          rcases HO4.out.2 with ⟨h1, _⟩ | ⟨g, cap, cur, h1, _, _, hn, _⟩
          · cases h1
          · simp only [Value.slice.injEq] at h1
            have := HKK.out
            omega
        go_wp2_with (first
          | (refine wpList_load_mid rfl 42 (.tmp 20) rfl g4 (k * 5) rfl (ecs x) _ HAT.out Tryd.underlying42 rfl (info_ent x) ?_)
          | (refine step_alloc rfl 9 rfl 42 rfl (ecs ent0) zero_ent ?_; intro g9 w2 hr2 hg2 hb2 hs2
             have HR2 := Lib.hid hr2
             have HB2 := Lib.hid hb2
             have HG2 := hg2
             clear hr2 hg2 hb2 hs2)
          | (refine step_store rfl 42 _ _ rfl g9 rfl 42 (ecs ent0) (ecs x) rfl HR2.out rfl (info_ent x) (ecs_one x) ?_; intro w3 hr3 hg3 hs3
             have c0 : w3.cell? ⟨g9, 0, none⟩ = some (.string x.nm) := (hr3.cell 0).trans rfl
             have HB5 := Lib.hid (HB2.out.grown hg3 HB2.out.size (fun q hq => by injection hq with hq; subst hq; exact Nat.le_of_eq HG2.out.symm))
             clear hr3 hg3 hs3))
        go_ret
        have e1 : k = fit room L := by have h1 := HK.out.2; rw [fit_no HX.out (by rw [HS.out.1]; exact HF.out)] at h1; omega
        exact ⟨_, _, k, L, rfl, own_kept (own_front HO4.out (Nat.le_of_lt HKK.out)) (below_nxt HB5.out HBR.out), e1, HL4.out.1, HL4.out.2, below_nxt (below_nxt HB5.out HBR.out) HB4.out⟩
      · have HF := Lib.hid hf
        obtain ⟨r2, hr2⟩ : ∃ r2 : Int, r - (24 + (s : Int)) = r2 := ⟨_, rfl⟩
        have hrw : IntKind.i64.wrap (r - (24 + (s : Int))) = r2 := by rw [IntKind.wrap_i64]; have := HR.out; have := HS.out; omega
        have HR2X := Lib.hid hr2
        clear hr2
        go_wp2_with (first
          | (refine wpList_load_mid rfl 42 (.tmp 20) rfl g4 (k * 5) rfl (ecs x) _ HAT.out Tryd.underlying42 rfl (info_ent x) ?_)
          | (refine step_alloc rfl 9 rfl 42 rfl (ecs ent0) zero_ent ?_; intro g9 w2 hr2 hg2 hb2 hs2
             have HR2 := Lib.hid hr2
             have HB2 := Lib.hid hb2
             have HG2 := hg2
             clear hr2 hg2 hb2 hs2)
          | (refine step_store rfl 42 _ _ rfl g9 rfl 42 (ecs ent0) (ecs x) rfl HR2.out rfl (info_ent x) (ecs_one x) ?_; intro w3 hr3 hg3 hs3
             have c0 : w3.cell? ⟨g9, 0, none⟩ = some (.string x.nm) := (hr3.cell 0).trans rfl
             have HB5 := Lib.hid (HB2.out.grown hg3 HB2.out.size (fun q hq => by injection hq with hq; subst hq; exact Nat.le_of_eq HG2.out.symm))
             clear hr3 hg3 hs3))
        go_roundw
        case rel =>
          refine ⟨k + 1, r2, by go_num, rfl, Lib.hid ⟨HKK.out, ?_⟩, Lib.hid (by have := HR.out; have := HR2X.out; have := HF.out; omega), Lib.hid (below_nxt HB5.out HBR.out)⟩
          have h1 := HK.out.2
          rw [fit_yes HX.out (by rw [HS.out.1]; exact HF.out), HS.out.1, HR2X.out] at h1
          omega
        case measure => have := HKK.out; simp [intOf]; omega
    · have hke : k = m := by have := HK.out; omega
      have hki : ¬ (k : Int) < (m : Int) := by omega
      have HKE := Lib.hid hke
      clear hk hke
      go_wp2
      go_ret
      have e1 : m = fit room L := by
        have h1 := HK.out.2
        rw [List.drop_of_length_le (by rw [HLL.out, HKE.out]; exact Nat.le_refl _)] at h1
        rw [fit_nil] at h1
        have := HKE.out
        omega
      exact ⟨A4, c4, m, rfl, L, own_kept (own_front HO4.out (Nat.le_refl _)) HBR.out, e1, HL4.out.1, HL4.out.2, below_nxt HBR.out HB4.out⟩
end Go.Proofs.YtijffkklhgnknaaDoor
