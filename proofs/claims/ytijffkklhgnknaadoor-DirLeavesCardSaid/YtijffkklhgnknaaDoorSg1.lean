/- The walk of DirLeaves. Conditions: the library's tables lie there, lengths are within the reach. -/
import Derived.Test.YtijffkklhgnknaaDoorMgSf0
import Derived.Test.YtijffkklhgnknaaDoorSd3
import Derived.Test.YtijffkklhgnknaaDoorSd2
import Derived.Test.YtijffkklhgnknaaDoorSb1
set_option linter.unusedVariables false
set_option maxRecDepth 20000
namespace Go.Proofs.YtijffkklhgnknaaDoor
open Go.RowKit
theorem leavesN_256 : ∀ (f : Nat) (X : List Ent), ∀ b ∈ leavesN f X, b.length = 256
  | 0, X, b, hb => by simp [leavesN] at hb
  | f + 1, X, b, hb => by
    unfold leavesN at hb
    split at hb
    · cases hb
    · rcases List.mem_cons.1 hb with rfl | hb
      · exact leafB_len X
      · exact leavesN_256 f _ b hb
theorem lv_256 {X : List Ent} : ∀ b ∈ lvL X, b.length = 256 := fun b hb => by
  unfold lvL at hb
  split at hb
  · exact leavesN_256 _ X b hb
  · cases hb
theorem map_mem {P : List BV} {L : List (List UInt8)} (h : P.map (·.l) = L) {b : BV} (hb : b ∈ P) : b.l ∈ L := by rw [← h]; exact List.mem_map.2 ⟨b, hb, rfl⟩
set_option maxHeartbeats 8000000 in
theorem leavesW (A : Option Addr) (n c : Nat) (X : List Ent) (w : World) (hT : Tabs w) (I : InE w A n c X) : Calls Tryd.prog 3 #[.slice A n c] w fun e w' => e = .returned (.bool true) ∧ Below w.heap.size w w' := by
  have HT := Lib.hid hT
  have HI := Lib.hid I
  have HN := Lib.hid (p := n ≤ 9223372036854775807 ∧ ∀ e ∈ X, e.nm.size ≤ 140737488355328) ⟨by have := I.reach; have := reach_lt; omega, fun e he => Nat.le_trans (I.ok e he).1 reach_lt⟩
  have HW := Lib.hid (EntOk.wide I.ok)
  have HLV := Lib.hid (lv_256 (X := X))
  have HPR := Lib.hid (p := lvE X = 0 → prL (lvL X) = X ∧ prE (lvL X) = 0) (fun h => by
    have hm : MayL X := by
      unfold lvE at h
      split at h
      · assumption
      · cases h
    have e1 : lvL X = leaves X := by unfold lvL; rw [if_pos hm]
    rw [e1]
    obtain ⟨h1, h2⟩ := okb_of hm (EntOk.wide I.ok) rfl
    obtain ⟨h3, h4⟩ := prL_yes h1
    exact ⟨h3.trans h2, h4⟩)
  obtain ⟨LL, hLL⟩ : ∃ L, lvL X = L := ⟨_, rfl⟩
  have HE := Lib.hid (p := lvE X = 0 ∨ lvE X = 201) (by unfold lvE; split; exact .inl rfl; exact .inr rfl)
  obtain ⟨er, her⟩ : ∃ e, lvE X = e := ⟨_, rfl⟩
  have H1 := Lib.hid (p := ∀ (A : Option Addr) (c : Nat) w, n ≤ 201 → (∀ e ∈ X, e.nm.size ≤ 16384) → Lies ecs 5 w A X → n ≤ c → Tabs w → Calls Tryd.prog 11 #[.slice A n c] w (LvP w LL er)) (fun A c w hn hs h hc hT => by
    have := leaves_any A n c X (by omega) w h I.len_ hc (fun e he => by have := hs e he; omega) (EntOk.wide I.ok) hT
    rwa [hLL, her] at this)
  have H2 := Lib.hid (p := ∀ (A : Option Addr) (c : Nat) w, n ≤ 201 → (∀ e ∈ X, e.nm.size ≤ 16384) → Lies ecs 5 w A X → n ≤ c → Calls Tryd.prog 12 #[.slice A n c] w (LvP w LL er)) (fun A c w hn hs h hc => by
    have := rleaves_any A n c X (by omega) w h I.len_ hc (fun e he => by have := hs e he; omega) (EntOk.wide I.ok)
    rwa [hLL, her] at this)
  rw [hLL] at HLV HPR
  rw [her] at HPR HE
  clear hT I hLL her
  go_enter Tryd.func3, Tryd.ntmps3
  go_wp2_with (first
    | (go_at_call 9; refine (awake_any _ HT.out).mono ?_; rintro e w2 ⟨rfl, hb⟩
       have B2 := Lib.hid hb
       clear hb)
    | (go_at_call 10; refine (small_any A n c X HN.out.1 _ (HI.out.lies.below B2.out) HI.out.len_ HN.out.2).mono ?_; rintro e w3 ⟨⟨z, rfl, hz⟩, hb⟩
       have HZ := Lib.hid hz
       have B3 := Lib.hid (below_nxt hb B2.out)
       clear hz hb
       cases z)
    | (at_builtin
       have HZZ := Lib.hid (HZ.out (by trivial))
       have HLF := Lib.hid (p := Lies ecs 5 (w3.alloc (.cells #[] 42)) A X) ((HI.out.lies.below B3.out).below ((Below.refl _ _).alloc (Nat.le_refl _) _))
       refine wp_join rfl _ _ rfl rec_ent w.heap.size (.slice (some ⟨w3.heap.size, 0, none⟩) 0 0) 0 [] rfl (void_own w3 _ 5 _ B3.out.size) A n c (X.flatMap ecs) rfl (by rw [flat_len ecs_len, HI.out.len_]) (Lies.src HLF.out (by decide) ecs_len HI.out.len_) (flat_one ecs_one _) (by have := HZZ.out.1; omega) (by have := B3.out.size; simp; omega) ?_
       intro v2' w4 hown2 hg2 hat2
       rw [List.nil_append, Nat.zero_add] at hown2
       obtain ⟨A4, c4, rfl⟩ := own_sl hown2
       have hb2 : Below w3.heap.size w3 w4 := ((Below.refl _ _).alloc (Nat.le_refl _) _).grown hg2 (by simp) (fun z hz => by have h0 : some w3.heap.size = some z := hz; injection h0 with h0; omega)
       have HO4 := Lib.hid hown2
       have B4 := Lib.hid (below_nxt hb2 B3.out)
       clear hown2 hg2 hat2 hb2 HLF)
    | (go_at_call 11; refine (H1.out A4 c4 w4 HZZ.out.1 HZZ.out.2 (Lies.own (by decide) ecs_len HO4.out) (own_cap HO4.out) (tabs_below HT.out B4.out)).mono ?_; rintro e w5 ⟨A5, m5, c5, P5, rfl, ho, hl, hm, hb⟩
       have HO5 := Lib.hid (own_kept HO4.out hb)
       have HP5 := Lib.hid ho
       have HL5 := Lib.hid (And.intro hl hm)
       have B5 := Lib.hid (below_nxt hb B4.out)
       clear ho hl hm hb)
    | (go_at_call 12; refine (H2.out A c w5 HZZ.out.1 HZZ.out.2 (HI.out.lies.below B5.out) HI.out.cap_).mono ?_; rintro e w6 ⟨A6, m6, c6, P6, rfl, ho, hl, hm, hb⟩
       have HO6 := Lib.hid (own_kept HO5.out hb)
       have HP56 := Lib.hid (HP5.out.below hb)
       have HP6 := Lib.hid ho
       have HL6 := Lib.hid (And.intro hl hm)
       have B6 := Lib.hid (below_nxt hb B5.out)
       clear ho hl hm hb)
    | (go_at_call 13; refine (rblocks_any A5 A6 m5 m6 c5 c6 P5 P6 (by have := HL5.out.2; omega) HP56.out.2.1 HP6.out.2.1 w6 (Lies.own (by decide) sc_len HP56.out.1) (Lies.own (by decide) sc_len HP6.out.1) (fun b hb => ⟨(HP56.out.2.2 b hb).hol, by have := HLV.out _ (map_mem HL5.out.1 hb); omega⟩) (fun b hb => ⟨(HP6.out.2.2 b hb).hol, by have := HLV.out _ (map_mem HL6.out.1 hb); omega⟩)).mono ?_; rintro e w7 ⟨rfl, hb⟩
       rw [decide_eq_true (HL5.out.1.trans HL6.out.1.symm)]
       have HO7 := Lib.hid (own_kept HO6.out hb)
       have HP7 := Lib.hid (HP56.out.below hb)
       have B7 := Lib.hid (below_nxt hb B6.out)
       clear hb)
    | (go_at_call 14; refine (lists_same A4 A n c4 c X (by have := HZZ.out.1; omega) HI.out.len_ _ (Lies.own (by decide) ecs_len HO7.out) (HI.out.lies.below B7.out)).mono ?_; rintro e w8 ⟨rfl, hb⟩
       have HP8 := Lib.hid (HP7.out.below hb)
       have B8 := Lib.hid (below_nxt hb B7.out)
       rcases HE.out with he | he
       all_goals
         subst he
         clear hb HO7)
    | (go_at_call 15; refine (parse_any A5 m5 c5 P5 (by have := HL5.out.2; omega) HP8.out.2.1 w8 (Lies.own (by decide) sc_len HP8.out.1) (fun b hb => ⟨(HP8.out.2.2 b hb).hol, by have := HLV.out _ (map_mem HL5.out.1 hb); omega⟩) (tabs_below HT.out B8.out)).mono ?_
       rw [HL5.out.1, (HPR.out (by trivial)).1, (HPR.out (by trivial)).2]
       unfold ParP
       rw [HI.out.len_]
       rintro e w9 ⟨A9, c9, rfl, ho, hb⟩
       have HO9 := Lib.hid ho
       have B9 := Lib.hid (below_nxt hb B8.out)
       clear ho hb)
    | (go_at_call 14; refine (lists_same A9 A n c9 c X (by have := HZZ.out.1; omega) HI.out.len_ _ (Lies.own (by decide) ecs_len HO9.out) (HI.out.lies.below B9.out)).mono ?_; rintro e w10 ⟨rfl, hb⟩
       have B10 := Lib.hid (below_nxt hb B9.out)
       clear hb))
  · go_ret
    exact ⟨rfl, B3.out⟩
  · go_ret
    exact ⟨rfl, B10.out⟩
  · go_ret
    exact ⟨rfl, B8.out⟩
end Go.Proofs.YtijffkklhgnknaaDoor
