/- Package grant: a super's block. Conditions: those named. -/
import Derived.Test.YtfbfeplegdpemaaGreatMgPut
import Derived.Deep.Onto
import Derived.Lib.SlBytesConst
import Derived.Test.YtfbfeplegdpemaaGreatMgMem
import Derived.Test.YtfbfeplegdpemaaGreatMgRBy
import Derived.BigQuiet
import Derived.Deep.QuietTactic
set_option linter.unusedVariables false
set_option maxRecDepth 20000
namespace Go.Proofs.YtfbfeplegdpemaaGreat
open Go.RowKit

/-- Bytes appended where there is no room: a new row. -/
theorem run_app_grow {P : Program} (w : World) (t ty e : TypeId) (i : TypeInfo) (U : U8 P t e i) (base g n cap : Nat) (l : List UInt8) (hn : l.length = n) (hD : Hol w (some ⟨g, 0, none⟩) l)
    (A : Option Addr) (m c : Nat) (l2 : List UInt8) (hm : l2.length = m) (hA : Hol w A l2) (hcap : cap < n + m) (hcn : cap ≤ 1000) (hb : n + m ≤ 1000000) (hm0 : 0 < m) (hbase : base ≤ w.heap.size) :
    ∃ c' w', (Builtin.append_ #[t, t] ty #[.slice (some ⟨g, 0, none⟩) n cap, .slice A m c]).run P w = .ok (.slice (some ⟨w.heap.size, 0, none⟩) (n + m) c') w' ∧
      w'.ownsRow base e 1 (.slice (some ⟨w.heap.size, 0, none⟩) (n + m) c') (n + m) (bc l ++ bc l2) ∧ Below w.heap.size w w' := by
  obtain ⟨g2, o2, rfl, _, hc2⟩ := hA.some_ (by omega)
  have hc1 : ∀ j u, (bc l)[j]? = some u → w.cell? ((⟨g, 0, none⟩ : Addr).add j) = some u := fun j u hu => by
    obtain ⟨x, hx, rfl⟩ := bc_get hu
    rcases hD with rfl | ⟨g', o', e', hc⟩
    · cases hx
    · injection e' with e'
      injection e' with e1 e2
      subst e1 e2
      have := hc j x hx
      rw [show (⟨g, 0, none⟩ : Addr).add j = ⟨g, 0 + j, none⟩ by unfold Addr.add; split <;> simp_all]
      exact this
  have hc3 : ∀ j u, (bc l2)[j]? = some u → w.cell? ((⟨g2, o2, none⟩ : Addr).add j) = some u := fun j u hu => by
    obtain ⟨x, hx, rfl⟩ := bc_get hu
    have := hc2 j x hx
    rw [show (⟨g2, o2, none⟩ : Addr).add j = ⟨g2, o2 + j, none⟩ by unfold Addr.add; split <;> simp_all]
    exact this
  have hr := run_append_grow (P := P) w t ty e i (.int .u8 0) U.ht U.hi U.hz ⟨g, 0, none⟩ n cap (bc l) (by rw [bc_len, U.h1]; omega) hc1 ⟨g2, o2, none⟩ m c (bc l2) (by rw [bc_len, U.h1]; omega) hc3 hcap (by omega) (by rw [U.h2]; exact growslice_fits (by omega) (by omega))
  have hge := grownCap_ge w (n + m) cap e
  have hcm : grownCap w (n + m) cap e ≤ maxLen := grownCap_le_maxLen w (n + m) cap e (by unfold maxLen; omega)
  have hlen : (bc l ++ bc l2).length = (n + m) * 1 := by rw [List.length_append, bc_len, bc_len]; omega
  have hz1 : (Builtin.zeroCells (Value.int .u8 0).cells (grownCap w (n + m) cap e - (n + m))).size = grownCap w (n + m) cap e - (n + m) := by
    rw [← Array.length_toList, show (Value.int .u8 0).cells = #[Value.int .u8 0] from rfl, zero_list, List.length_replicate]
  refine ⟨_, _, hr, ⟨hlen, .inr ⟨w.heap.size, _, _, rfl, hbase, heap_alloc_new w.drew _, hge, hcm, ?_, ?_⟩⟩, ?_⟩
  · simp only [Array.size_append, List.size_toArray, hz1, bc_len]
    omega
  · simp only [Array.toList_append]
    rw [← hlen]
    exact List.take_left
  · exact ((Below.refl _ _).drew).alloc (Nat.le_refl _) _
theorem wpList_grow {P : Program} {w : World} {ops : Array Oper} {rest : List Oper} {o : Oper} {a : Act} {Q : Exit → Act → World → Prop} (hgd : o.guard = none) (s x : Operand) (t : TypeId)
    (ho : o.op = .call { callee := .builtin .append, args := #[s, x], argTypes := #[t, t] }) (e : TypeId) (i : TypeInfo) (U : U8 P t e i) (base g n cap : Nat) (l : List UInt8) (hs : a.eval s = .slice (some ⟨g, 0, none⟩) n cap) (hn : l.length = n) (hD : Hol w (some ⟨g, 0, none⟩) l)
    (A : Option Addr) (m c : Nat) (l2 : List UInt8) (hx : a.eval x = .slice A m c) (hm : l2.length = m) (hA : Hol w A l2) (hcap : cap < n + m) (hcn : cap ≤ 1000) (hb : n + m ≤ 1000000) (hm0 : 0 < m) (hbase : base ≤ w.heap.size)
    (h : ∀ c' w', w'.ownsRow base e 1 (.slice (some ⟨w.heap.size, 0, none⟩) (n + m) c') (n + m) (bc l ++ bc l2) → Below w.heap.size w w' → wpList P ops Q rest (a.put o.dst (.slice (some ⟨w.heap.size, 0, none⟩) (n + m) c')) w') : wpList P ops Q (o :: rest) a w := by
  refine wpList_plain hgd fun K hK => ?_
  obtain ⟨c', w', hr, h1, h2⟩ := run_app_grow (P := P) w t o.type e i U base g n cap l hn hD A m c l2 hm hA hcap hcn hb hm0 hbase
  unfold Oper.wp execOp
  simp only [ho, resolve, invoke, builtin, Sem.run_bind, Sem.run_pure, Result.andThen_ok, List.map_toArray, List.map_cons, List.map_nil, hs, hx, hr]
  exact hK _ _ (h c' w' h1 h2)
theorem sgn_hol (w : World) : Hol (w.alloc (.cells #[.int .u8 79, .int .u8 85, .int .u8 66, .int .u8 49] 5 (4, 5))) (some ⟨w.heap.size, 0, none⟩) [79, 85, 66, 49] := by
  refine .inr ⟨_, _, rfl, fun j x hx => ?_⟩
  have hh : (w.alloc (.cells #[.int .u8 79, .int .u8 85, .int .u8 66, .int .u8 49] 5 (4, 5))).heap[w.heap.size]? = some (.cells #[.int .u8 79, .int .u8 85, .int .u8 66, .int .u8 49] 5 (4, 5)) := heap_alloc_new w _
  rw [cell_of_row _ w.heap.size (0 + j) _ _ _ hh, Nat.zero_add]
  rcases j with _ | _ | _ | _ | j
  · injection hx with hx; subst hx; rfl
  · injection hx with hx; subst hx; rfl
  · injection hx with hx; subst hx; rfl
  · injection hx with hx; subst hx; rfl
  · simp at hx
/-- A super that may not be has no block. -/
theorem gpack_not (x : Sup) (h : ¬ x.May) (w : World) : Calls Tryz.prog 64 #[.agg x.cs.toArray] w fun e w' => e = .returned (.tuple #[.slice none 0 0, .int .i64 201]) ∧ Below w.heap.size w w' := by
  have i1 := Lib.hid (fun x : Sup => info_cs x)
  have HMB := Lib.hid (fun w => maybe_any x false ⟨fun e => (by cases e), fun e => absurd e h⟩ w)
  clear h
  go_enter Tryz.func64, Tryz.ntmps64
  go_wp2_with (first
    | (refine step_box rfl 1 rfl 59 (.tmp 0) rfl x.cs rfl ?_; intro g2 w2 hr2 hg2 hb2 hs2
       have R2 := Lib.hid hr2
       have HB2 := Lib.hid hb2
       have Q2 := Lib.hid (p := w.heap.size ≤ g2) (by rw [hg2.out]; exact Nat.le_refl _)
       clear hr2 hb2 hg2 hs2)
    | (refine step_load rfl 7 rfl 59 (.tmp 1) rfl g2 rfl x.cs _ R2.out.all Tryz.underlying59 rfl (i1.out _) ?_)
    | (go_at_call 90; refine (HMB.out _).mono ?_; rintro e w3 ⟨rfl, hb3⟩
       have HB3 := Lib.hid (below_nxt hb3 HB2.out)
       clear hb3))
  go_ret2
  exact ⟨rfl, HB3.out⟩
/-- Bytes that the call makes, beside a super's block. -/
structure Buf (w0 w : World) (g2 : Nat) (A : Option Addr) (n c : Nat) (l : List UInt8) : Prop where
  own : w.ownsRow w0.heap.size 5 1 (.slice A n c) n (bc l)
  far : ∀ k, (Value.slice A n c).ownBlock = some k → g2 < k
theorem Buf.kept {w0 w w' : World} {g2 n c : Nat} {A : Option Addr} {l : List UInt8} (h : Buf w0 w g2 A n c l) (hb : Below w.heap.size w w') : Buf w0 w' g2 A n c l := ⟨own_kept h.own hb, h.far⟩
theorem Buf.app {w0 w w' : World} {g2 n c m n' : Nat} {A : Option Addr} {l l2 : List UInt8} {v : Value} {t : TypeId} {cs : List Value} (h : Buf w0 w g2 A n c l) (hn : n + m = n') (ho : w'.ownsRow w0.heap.size 5 1 v (n + m) (bc l ++ bc l2)) (hg : w.grownBy w' (Value.slice A n c).ownBlock) (hat : v.ownBlock = (Value.slice A n c).ownBlock ∨ v.ownBlock = some w.heap.size) (hr : Row w g2 t cs) (hb : Below w0.heap.size w0 w) :
    ∃ A' c', v = .slice A' n' c' ∧ Hid (Buf w0 w' g2 A' n' c' (l ++ l2)) ∧ Hid (Row w' g2 t cs) ∧ Hid (Below w0.heap.size w0 w') := by
  subst hn
  obtain ⟨A', c', rfl⟩ := own_sl ho
  refine ⟨A', c', rfl, Lib.hid ⟨by rw [bc_app]; exact ho, fun k hk => ?_⟩, Lib.hid (hr.grown hg (fun e => ?_)), Lib.hid (hb.grown hg hb.size (fun k hk => ?_))⟩
  · rcases hat with e | e
    · exact h.far k (by rw [← e]; exact hk)
    · rw [e] at hk
      injection hk with hk
      have := hr.lt
      omega
  · have := h.far g2 e.symm
    omega
  · exact (h.own.lt k hk).1
set_option maxHeartbeats 8000000 in
theorem gpack_ok (x : Sup) (h : x.May) (hs64 : x.s < 18446744073709551616) (w : World) : Calls Tryz.prog 64 #[.agg x.cs.toArray] w fun e w' => ∃ g c, e = .returned (.tuple #[.slice (some ⟨g, 0, none⟩) 256 c, .int .i64 0]) ∧ Hid (w'.ownsRow w.heap.size 5 1 (.slice (some ⟨g, 0, none⟩) 256 c) 256 (bc (lst 256 x.pb))) ∧ Hid (Below w.heap.size w w') := by
  obtain ⟨i, U⟩ := u8_tab
  have i1 := Lib.hid (fun x : Sup => info_cs x)
  have HMB := Lib.hid (fun w => maybe_any x true ⟨fun _ => h, fun _ => rfl⟩ w)
  have HMAY := Lib.hid h
  obtain ⟨s, hs⟩ : ∃ s, x.s = s := ⟨_, rfl⟩
  have HSS := Lib.hid hs
  have HNS := Lib.hid (fun w => gnumber_any 8 s (.inr rfl) (by rw [← hs]; exact hs64) w)
  have kc := fun (w : World) (C : Array Value) (n c : Nat) => Lib.run_convert_bytes_const (P := Tryz.prog) w 22 5 C n c Tryz.underlying22 Tryz.underlying5
  clear h hs64 hs
  go_enter Tryz.func64, Tryz.ntmps64
  go_wp2_with (first
    | (refine step_box rfl 1 rfl 59 (.tmp 0) rfl x.cs rfl ?_; intro g2 w2 hr2 hg2 hb2 hs2
       have R2 := Lib.hid hr2
       have HB2 := Lib.hid hb2
       have Q2 := Lib.hid (p := w.heap.size ≤ g2) (by rw [hg2.out]; exact Nat.le_refl _)
       clear hr2 hb2 hg2 hs2)
    | (refine step_load rfl 7 rfl 59 (.tmp 1) rfl g2 rfl x.cs _ R2.out.all Tryz.underlying59 rfl (i1.out _) ?_)
    | (go_at_call 90; refine (HMB.out _).mono ?_; rintro e w3 ⟨rfl, hb3⟩
       have R3 := Lib.hid (R2.out.kept hb3)
       have HB3 := Lib.hid (below_nxt hb3 HB2.out)
       have c0 : ∀ o, (w3.alloc o).cell? ⟨g2, 0, none⟩ = some (.int .u64 (s : Int)) := fun o => by rw [(R3.out.alloc o).cell, x.c_s, HSS.out]
       clear hb3 HMB)
    | (go_at_call 91; refine (HNS.out _).mono ?_; rintro e w5 ⟨A5, c5, rfl, ho5, hb5⟩
       have HB4 := Lib.hid (p := Below w.heap.size w (w3.alloc (.cells #[.int .u8 79, .int .u8 85, .int .u8 66, .int .u8 49] 5 (4, 5)))) (HB3.out.alloc HB3.out.size _)
       have R5 := Lib.hid ((R3.out.alloc (.cells #[.int .u8 79, .int .u8 85, .int .u8 66, .int .u8 49] 5 (4, 5))).kept hb5.out)
       have HH5 := Lib.hid ((sgn_hol w3).below hb5.out)
       have HB5 := Lib.hid (below_nxt hb5.out HB4.out)
       clear c0 hb5 HNS kc)
    | (at_builtin; (refine wpList_grow rfl _ _ _ rfl 5 i U w.heap.size w3.heap.size 4 4 [79, 85, 66, 49] rfl rfl HH5.out A5 (leb s 8).length c5 (leb s 8) rfl rfl (Hol.own ho5.out) (by rw [leb_len]; omega) (by omega) (by rw [leb_len]; omega) (by rw [leb_len]; omega) HB5.out.size ?_)
       intro c6 w6 ho6 hb6
       have h12 : 4 + (leb s 8).length = 12 := by rw [leb_len]
       rw [h12] at ho6 ⊢
       have R6 := Lib.hid (R5.out.kept hb6)
       have HB6 := Lib.hid (below_nxt hb6 HB5.out)
       have HO6 := Lib.hid (p := Buf w w6 g2 (some ⟨w5.heap.size, 0, none⟩) 12 c6 (lst 12 x.pb)) ⟨by rw [x.pb_ser, x.pb_sgn, HSS.out, bc_app]; exact ho6, fun k hk => by have hk : some w5.heap.size = some k := hk; injection hk with hk; have := R5.out.lt; omega⟩
       obtain ⟨A6, hA6⟩ : ∃ A6 : Option Addr, some ⟨w5.heap.size, 0, none⟩ = A6 := ⟨_, rfl⟩
       rw [hA6] at HO6 ⊢
       clear ho6 hb6 ho5 HH5 R5 HB5 h12 hA6)
    | (go_at_call 92; refine (packbits_any (some ⟨g2, 1, none⟩) 256 256 32 x.u rfl (by omega) (Nat.le_refl _) _ (Sup.hol_u R6.out)).mono ?_; rintro e w7 ⟨g7, rfl, hr7, hg7, hb7⟩
       have R7 := Lib.hid (R6.out.kept hb7.out)
       have HO7 := Lib.hid (HO6.out.kept hb7.out)
       have HB7 := Lib.hid (below_nxt hb7.out HB6.out)
       clear hg7 hb7 HO6)
    | (at_builtin; (refine wpList_app _ rfl _ _ _ rfl 5 i U w.heap.size _ 12 _ rfl HO7.out.own (some ⟨g7, 0, none⟩) 32 32 (lst 32 (bt x.u)) rfl (by rw [lst_len]) hr7.out.hol (by omega) HB7.out.size ?_)
       intro v8 w8 ho8 hg8 hat8
       obtain ⟨A8, c8, rfl, HO8', R8, HB8⟩ := Buf.app (n' := 44) (h := HO7.out) rfl ho8 hg8 hat8 R7.out HB7.out
       have HO8 := Lib.hid (p := Buf w w8 g2 A8 44 c8 (lst (44 + 2 * 0) x.pb)) (by show Buf w w8 g2 A8 44 c8 (lst 44 x.pb); rw [x.pb_used]; exact HO8'.out)
       clear ho8 hg8 hat8 hr7 HO8' HO7))
  go_loopw [4, 24] (fun v y wr => ∃ (k n : Nat) (A : Option Addr) (c : Nat), k ≤ 64 ∧ y = .int .i64 (k : Int) ∧ v = .slice A n c ∧ Hid (n = 44 + 2 * k) ∧ Hid (Buf w wr g2 A n c (lst (44 + 2 * k) x.pb)) ∧ Hid (Row wr g2 59 x.cs) ∧ Hid (Below w.heap.size w wr)) (fun _ y _ => 64 - (intOf y).toNat)
  case atStart => exact ⟨0, 44, A8, c8, by omega, rfl, rfl, Lib.hid rfl, HO8, R8, HB8⟩
  case round =>
    clear HO8 R8 HB8
    obtain ⟨k, n, A, c, hk, rfl, rfl, HN, HO, HR, HB⟩ := hrel
    have hkw : IntKind.i64.wrap ((k : Int) + 1) = (k : Int) + 1 := by rw [IntKind.wrap_i64]; omega
    by_cases hk64 : k < 64
    · have hki : (k : Int) < 64 := by omega
      have HK := Lib.hid hk64
      obtain ⟨m, hm, hm256⟩ : ∃ m : Nat, x.i (k + 1) = (m : Int) ∧ m < 256 := by
        have hok := HMAY.out.2.2.2 (k + 1) (by omega)
        unfold Sup.OkA at hok
        by_cases h0 : x.i (k + 1) = 0
        · exact ⟨0, h0, by omega⟩
        · rw [if_neg h0] at hok
          exact ⟨(x.i (k + 1)).toNat, by omega, by omega⟩
      have c1 : wr.cell? ⟨g2, 258 + k, none⟩ = some (.int .i64 (m : Int)) := by rw [HR.out.cell, show 258 + k = 257 + (k + 1) by omega, x.c_i (by omega), hm]
      have hmw : IntKind.u64.wrap (m : Int) = (m : Int) := by rw [IntKind.wrap_u64]; omega
      have HNM := Lib.hid (fun w => gnumber_any 2 m (.inl rfl) (by have e : (256 : Nat) ^ 2 = 65536 := rfl; omega) w)
      have HPB := Lib.hid (p := lst (44 + 2 * (k + 1)) x.pb = lst (44 + 2 * k) x.pb ++ leb m 2) (by rw [x.pb_ino k hk64, hm, Int.toNat_natCast])
      clear hk hk64 hm hm256
      go_wp2_with (first
        | (go_at_call 91; refine (HNM.out _).mono ?_; rintro e w5 ⟨A5, c5, rfl, ho5, hb5⟩
           have HR5 := Lib.hid (HR.out.kept hb5.out)
           have HO5 := Lib.hid (HO.out.kept hb5.out)
           have HB5 := Lib.hid (below_nxt hb5.out HB.out)
           clear hb5)
        | (at_builtin; (refine wpList_app _ rfl _ _ _ rfl 5 i U w.heap.size _ n _ rfl HO5.out.own A5 (leb m 2).length c5 (leb m 2) rfl rfl (Hol.own ho5.out) (by rw [leb_len]; have := HN.out; have := HK.out; omega) HB5.out.size ?_)
           intro v6 w6 ho6 hg6 hat6
           obtain ⟨A6, c6, rfl, HO6', HR6, HB6⟩ := Buf.app (n' := n + 2) (l2 := leb m 2) (h := HO5.out) (by rw [leb_len]) ho6 hg6 hat6 HR5.out HB5.out
           have HO6 := Lib.hid (p := Buf w w6 g2 A6 (n + 2) c6 (lst (44 + 2 * (k + 1)) x.pb)) (by rw [HPB.out]; exact HO6'.out)
           clear ho6 hg6 hat6 ho5 HO6'))
      go_roundw
      case rel => exact ⟨k + 1, n + 2, A6, c6, by have := HK.out; omega, by go_num, rfl, Lib.hid (by have := HN.out; omega), HO6, HR6, HB6⟩
      case measure => have := HK.out; simp [intOf]; omega
    · obtain rfl : k = 64 := by omega
      obtain rfl : n = 172 := by have := HN.out; omega
      clear hk hk64
      go_wp2_with (first
        | (go_at_call 92; refine (packbits_any (some ⟨g2, 323, none⟩) 64 64 8 (fun j => x.o (j + 1)) rfl (by omega) (Nat.le_refl _) _ (Sup.hol_o HR.out)).mono ?_; rintro e w7 ⟨g7, rfl, hr7, hg7, hb7⟩
           have HR7 := Lib.hid (HR.out.kept hb7.out)
           have HO7 := Lib.hid (HO.out.kept hb7.out)
           have HB7 := Lib.hid (below_nxt hb7.out HB.out)
           clear hg7 hb7 HO)
        | (at_builtin; (refine wpList_app _ rfl _ _ _ rfl 5 i U w.heap.size _ 172 _ rfl HO7.out.own (some ⟨g7, 0, none⟩) 8 8 (lst 8 (bt fun j => x.o (j + 1))) rfl (by rw [lst_len]) hr7.out.hol (by omega) HB7.out.size ?_)
           intro v8 w8 ho8 hg8 hat8
           obtain ⟨A8, c8, rfl, HO8', HR8, HB8⟩ := Buf.app (n' := 180) (h := HO7.out) rfl ho8 hg8 hat8 HR7.out HB7.out
           have HO8 := Lib.hid (p := Buf w w8 g2 A8 180 c8 (lst 180 x.pb)) (by rw [x.pb_orp]; exact HO8'.out)
           obtain ⟨g8, rfl⟩ : ∃ g8, A8 = some ⟨g8, 0, none⟩ := by
             rcases HO8.out.own.2 with ⟨_, e⟩ | ⟨g', cap', cur, hv, _⟩
             · cases e
             · injection hv with hv
               exact ⟨g', hv⟩
           clear ho8 hg8 hat8 hr7 HO8' HO7)
        | (at_builtin; (refine wpList_zeros rfl _ _ 22 3 rfl 5 i U Tryz.underlying3 w.heap.size g8 180 76 c8 _ rfl rfl HO8.out.own (by omega) (by omega) HB8.out.size ?_)
           intro g9 c9 w9 ho9 hg9
           have HO9 := Lib.hid (p := w9.ownsRow w.heap.size 5 1 (.slice (some ⟨g9, 0, none⟩) 256 c9) 256 (bc (lst 256 x.pb))) (by rw [x.pb_rest, bc_app, show bc (List.replicate 76 0) = List.replicate 76 (Value.int .u8 0) from by simp [bc]]; exact ho9)
           have HB9 := Lib.hid (p := Below w.heap.size w w9) (HB8.out.grown hg9 HB8.out.size (fun q hq => (HO8.out.own.lt q hq).1))
           clear ho9 hg9))
      go_ret2
      exact ⟨g9, c9, rfl, HO9, HB9⟩
end Go.Proofs.YtfbfeplegdpemaaGreat
/- The reference's numbers as bytes: what each call leaves. Conditions: those named. -/
set_option linter.unusedVariables false
namespace Go.Proofs.YtfbfeplegdpemaaGreat
open Go.RowKit

theorem hol_b (w : World) (e : TypeId) (x : UInt8) (z : Int) (hz : z = (x.toNat : Int)) : Hol (w.alloc (.cells #[.int .u8 z] e)) (some ⟨w.heap.size, 0, none⟩) [x] := by
  subst hz
  exact hol_byte (made_byte w e _)
theorem div_stp (x k : Nat) : ((x / 256 ^ k : Nat) : Int) / 256 = ((x / 256 ^ (k + 1) : Nat) : Int) := by
  rw [Nat.pow_succ, ← Nat.div_div_eq_div_mul]
  omega
theorem byte_md (x k : Nat) : ((x / 256 ^ k : Nat) : Int) % 256 = ((UInt8.ofNat (x / 256 ^ k)).toNat : Int) := by
  have e : (UInt8.ofNat (x / 256 ^ k)).toNat = x / 256 ^ k % 256 := UInt8.toNat_ofNat' ..
  rw [e]
  omega

set_option maxHeartbeats 1000000 in
theorem rput_app (A : Option Addr) (c : Nat) (l : List UInt8) (k : Nat) (x : Nat) (w : World) (hA : Hol w A l) (hx : x < 18446744073709551616) (hx0 : x / 256 ^ k = 0) (hl : l.length ≤ 35184372088832) (hk : 1 ≤ k) (hk8 : k ≤ 8)
    (h : ((k : Int) != 1) = false ∨ ((k : Int) != 1) = true ∧ ((k : Int) != 2) = false ∨ ((k : Int) != 1) = true ∧ ((k : Int) != 2) = true ∧ ((k : Int) != 4) = false ∨ ((k : Int) != 1) = true ∧ ((k : Int) != 2) = true ∧ ((k : Int) != 4) = true ∧ ((k : Int) != 8) = false) :
    Calls Tryz.prog 97 #[.slice A l.length c, .int .i64 k, .int .u64 x] w fun e w' => ∃ v, e = .returned (.tuple #[v, .int .i64 0]) ∧ w'.ownsRow w.heap.size 5 1 v (l.length + k) (bc (l ++ leb x k)) ∧ Below w.heap.size w w' := by
  obtain ⟨i, U⟩ := u8_tab
  have HX0 := Lib.hid hx0
  clear hx0
  have hown0 : ∀ W : World, (W.alloc (.cells #[] 5)).ownsRow W.heap.size 5 1 (.slice (some ⟨W.heap.size, 0, none⟩) 0 0) 0 [] := fun W => World.ownsRow_made W #[] 0 (Nat.le_refl _) (by decide) rfl
  have HO := Lib.hid hown0
  clear hown0
  rcases h with h | ⟨h, h2⟩ | ⟨h, h2, h3⟩ | ⟨h, h2, h3, h4⟩
  all_goals
    go_enter Tryz.func97, Tryz.ntmps97
    go_wp2_with (at_builtin; refine wpList_app _ rfl (.tmp 24) (.tmp 25) _ rfl 5 i U w.heap.size _ 0 [] rfl (HO.out w) A l.length c l rfl rfl (hA.below (below_of_grown (World.grownBy_alloc w _ none))) (by omega) (by simp) ?_; intro v1 w1 hown1 hg1 hat1)
  all_goals
    have hb1 : Below w.heap.size w w1 := (below_of_grown (World.grownBy_alloc w _ none)).grown hg1 (by simp) (fun k hk => ((HO.out w).lt k hk).1)
    have hown2 : w1.ownsRow w.heap.size 5 1 v1 (l.length + 0) (bc (l ++ leb x 0)) := by simpa [leb] using hown1
    clear hown1 hg1 hat1
    go_loopw [2, 8, 9] (fun y s i wr => ∃ j : Nat, j ≤ k ∧ i = .int .i64 j ∧ y = .int .u64 (x / 256 ^ j : Nat) ∧ wr.ownsRow w.heap.size 5 1 s (l.length + j) (bc (l ++ leb x j)) ∧ Below w.heap.size w wr) (fun _ _ i _ => k - (intOf i).toNat)
    case atStart => exact ⟨0, Nat.zero_le _, rfl, by simp, hown2, hb1⟩
    case round =>
      obtain ⟨j, hj, rfl, rfl, hown3, hb3⟩ := hrel
      have hY : x / 256 ^ j < 18446744073709551616 := Nat.lt_of_le_of_lt (Nat.div_le_self _ _) hx
      have hd1 := div_stp x j
      have hm1 := byte_md x j
      by_cases hlt : j < k
      · generalize hy : x / 256 ^ j = y at *
        have HD := Lib.hid hd1
        have HM := Lib.hid hm1
        have HY := Lib.hid hy
        clear hd1 hm1 hy
        go_wp2_with (at_builtin; refine wpList_app _ rfl _ _ _ rfl 5 i U w.heap.size _ (l.length + j) _ rfl (hown3.alloc _) (some ⟨wr.heap.size, 0, none⟩) 1 1 [UInt8.ofNat y] rfl rfl (hol_b _ _ _ _ (by exact HM.out)) (by omega) (by have := hb3.size; simp; omega) ?_; intro v4 w4 hown4 hg4 hat4)
        have hb4 : Below w.heap.size w w4 := (hb3.alloc hb3.size _).grown hg4 (by have := hb3.size; simp; omega) (fun q hq => (hown3.lt q hq).1)
        have hown5 : w4.ownsRow w.heap.size 5 1 v4 (l.length + (j + 1)) (bc (l ++ leb x (j + 1))) := by
          rw [leb_succ, HY.out, ← List.append_assoc, bc_app]
          exact hown4
        clear hown4 hg4 hat4
        go_roundw
        case rel => exact ⟨j + 1, by omega, by go_num, by rw [← HD.out], hown5, hb4⟩
        case measure => simp [intOf]; omega
      · have hjk : j = k := by omega
        subst hjk
        clear hd1 hm1
        have hz := HX0.out
        have hzz : ((x / 256 ^ j : Nat) : Int) = 0 := by rw [hz]; rfl
        generalize hy : x / 256 ^ j = y at *
        subst hz
        have HY := Lib.hid hy
        clear hzz hy
        go_wp2
        go_ret2
        exact ⟨_, rfl, hown3, hb3⟩

end Go.Proofs.YtfbfeplegdpemaaGreat
/- Numbers put behind bytes by the reference, under names. Conditions: those named. -/
set_option linter.unusedVariables false
namespace Go.Proofs.YtfbfeplegdpemaaGreat
open Go.RowKit

end Go.Proofs.YtfbfeplegdpemaaGreat
/- The reference's answer: whether a super may be, and its block. No conditions but those named. -/
set_option linter.unusedVariables false
set_option maxRecDepth 20000
namespace Go.Proofs.YtfbfeplegdpemaaGreat
open Go.RowKit

end Go.Proofs.YtfbfeplegdpemaaGreat
/- The reference's answer: a super's block. No conditions but those named. -/
set_option linter.unusedVariables false
set_option maxRecDepth 20000
namespace Go.Proofs.YtfbfeplegdpemaaGreat
open Go.RowKit

def Sup.o' (x : Sup) (k : Nat) : Bool := x.o (k + 1)
end Go.Proofs.YtfbfeplegdpemaaGreat
