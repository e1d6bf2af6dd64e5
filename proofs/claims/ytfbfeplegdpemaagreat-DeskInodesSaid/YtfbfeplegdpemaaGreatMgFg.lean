/- A volume keeps a run's changes. Conditions: the changes are the caller's own, each of 256 bytes, in a slot that there is. -/
import Derived.Test.YtfbfeplegdpemaaGreatMgOh
import Derived.Test.YtfbfeplegdpemaaGreatMgRBy
import Derived.Test.YtfbfeplegdpemaaGreatMgIa
import Derived.Test.YtfbfeplegdpemaaGreatMgGr
import Derived.Deep.RegionLaw
import Derived.Deep.AppendLies
set_option linter.unusedVariables false
set_option maxRecDepth 20000
namespace Go.Proofs.YtfbfeplegdpemaaGreat
open Go.RowKit

/-- So many bytes of l, and bytes 0. -/
def part8 (l : L8) (k j : Nat) : UInt8 := if j < k then l.getD j 0 else 0
theorem part8_zero (l : L8) : part8 l 0 = fun _ => 0 := by funext j; unfold part8; rw [if_neg (by omega)]
theorem part8_next (l : L8) (k : Nat) : (fun j => if j = k then l.getD k 0 else part8 l k j) = part8 l (k + 1) := by
  funext j
  unfold part8
  by_cases e : j = k
  · subst e
    rw [if_pos rfl, if_pos (by omega)]
  · rw [if_neg e]
    by_cases h : j < k
    · rw [if_pos h, if_pos (by omega)]
    · rw [if_neg h, if_neg (by omega)]
/-- A volume in the midst of keeping a block. -/
structure KI (base b2 : Nat) (gs gL gN D c n c' a : Nat) (A' : Option Addr) (Bi : List BV) (ps : List (Int × BV)) (W : World) : Prop where
  row : Row W gs 76 [.slice (some ⟨gL, 0, none⟩) D c]
  own : W.ownsRow base 22 1 (.slice (some ⟨gL, 0, none⟩) D c) D ((Bi.map bvv).set a (.slice (some ⟨gN, 0, none⟩) 256 256))
  by_ : ∀ x ∈ Bi, Own8 base W x
  pu : W.ownsRow b2 70 2 (.slice A' n c') n (ps.flatMap pcs)
  po : ∀ p ∈ ps, Own8 b2 W p.2
section
variable {base b2 gs gL gN D c n c' a : Nat} {A' : Option Addr} {Bi : List BV} {ps : List (Int × BV)} {W W' : World}
theorem KI.chg (h : KI base b2 gs gL gN D c n c' a A' Bi ps W) (hc : Chg [gN] W W') {f : Nat → UInt8} (hr : Row W gN 5 (brr 256 f)) (hlt : ∀ q, (∃ x ∈ Bi, (bvv x).ownBlock = some q) ∨ (∃ p ∈ ps, (bvv p.2).ownBlock = some q) → q < gN) : KI base b2 gs gL gN D c n c' a A' Bi ps W' := by
  refine ⟨hc.row h.row (by simp; exact h.row.ne_ hr (by decide)), own_chg h.own hc (fun g hg => by rw [List.mem_singleton] at hg; subst hg; exact row_parted hr h.own (by decide)), fun x hx => own_chg (h.by_ x hx) hc (fun g hg e => by rw [List.mem_singleton] at hg; subst hg; have := hlt g (.inl ⟨x, hx, e⟩); omega), own_chg h.pu hc (fun g hg => by rw [List.mem_singleton] at hg; subst hg; exact row_parted hr h.pu (by decide)), fun p hp => own_chg (h.po p hp) hc (fun g hg e => by rw [List.mem_singleton] at hg; subst hg; have := hlt g (.inr ⟨p, hp, e⟩); omega)⟩
end
section
variable {base b2 : Nat} {w w' : World} {gs : Nat} {A A' : Option Addr} {c c' n : Nat} {Bs : List BV} {ps : List (Int × BV)}
end
end Go.Proofs.YtfbfeplegdpemaaGreat
/- Words for memory: rows of the call's own that grow by append; the reference's sizes and numbers. Conditions: those named. -/
set_option linter.unusedVariables false
set_option maxRecDepth 20000
namespace Go.Proofs.YtfbfeplegdpemaaGreat
open Go.RowKit

/-- What the table says of a record's type, and of slices of it. -/
theorem rec_int : Rec Tryz.prog 110 3 1 := rec_of (z := .int .i64 0) (n := 8) Tryz.underlying110 (by kernel_rfl) (by decide) rfl (by decide)

section
variable {P : Program} {w : World} {t e : TypeId} {k : Nat}
end

def fv (n : Nat) (f : Nat → Value) : List Value := (List.range n).map f
theorem fv_len (n : Nat) (f : Nat → Value) : (fv n f).length = n := by simp [fv]
theorem fv_get {n j : Nat} (f : Nat → Value) (h : j < n) : (fv n f)[j]? = some (f j) := by simp [fv, h]
theorem fv_snoc (n : Nat) (f : Nat → Value) : fv (n + 1) f = fv n f ++ [f n] := by
  unfold fv
  rw [List.range_succ, List.map_append]
  rfl
theorem fv_zero (f : Nat → Value) : fv 0 f = [] := rfl
attribute [irreducible] fv
theorem rec_u64 : Rec Tryz.prog 117 35 1 := rec_of (z := .int .u64 0) (n := 8) Tryz.underlying117 (by kernel_rfl) (by decide) rfl (by decide)
/-- A row of the call's own, told by a function of the place. -/
def OV (B : Nat) (w : World) (e : TypeId) (A : Option Addr) (n c : Nat) (f : Nat → Value) : Prop := w.ownsRow B e 1 (.slice A n c) n (fv n f)
theorem OV.cells {B : Nat} {w : World} {e : TypeId} {A : Option Addr} {n c : Nat} {f : Nat → Value} (h : OV B w e A n c f) (hn : 0 < n) : ∃ g, A = some ⟨g, 0, none⟩ ∧ ∀ j, j < n → w.cell? ⟨g, j, none⟩ = some (f j) := by
  rcases h.2 with ⟨h0, _⟩ | ⟨g, cap, cur, h1, _⟩
  · injection h0 with h0 h1
    omega
  · injection h1 with h1 _ _
    refine ⟨g, h1, fun j hj => ?_⟩
    subst h1
    have := World.ownsRow.cells h (g := g) rfl j _ (fv_get f hj)
    rwa [Addr.add_lit, Nat.zero_add] at this
theorem OV.kept {B : Nat} {w w' : World} {e : TypeId} {A : Option Addr} {n c : Nat} {f : Nat → Value} (h : OV B w e A n c f) (hb : Below w.heap.size w w') : OV B w' e A n c f := own_kept h hb
/-- One more. -/
theorem OV.more {W w w' : World} {B : Nat} {e : TypeId} {A : Option Addr} {n c : Nat} {f : Nat → Value} {u v' : Value} {o : Obj} (hb : Below B W w) (hB : B ≤ w.heap.size) (hown : OV B w e A n c f) (hu : f n = u)
    (h1 : w'.ownsRow B e 1 v' (n + 1) (fv n f ++ [u])) (hg : (w.alloc o).grownBy w' (Value.slice A n c).ownBlock) : ∃ A' c', v' = .slice A' (n + 1) c' ∧ OV B w' e A' (n + 1) c' f ∧ Below B W w' := by
  obtain ⟨A', c', rfl⟩ := own_sl h1
  refine ⟨A', c', rfl, ?_, ?_⟩
  · unfold OV
    rw [fv_snoc, hu]
    exact h1
  · exact (hb.alloc hB o).grown hg (by simp; omega) (fun k hk => (hown.lt k hk).1)
theorem made_ov (w : World) (e : TypeId) (n : Nat) (f : Nat → Value) (B : Nat) (hB : B ≤ w.heap.size) (hn : n ≤ maxLen) : OV B (w.alloc (.cells (fv n f).toArray e)) e (some ⟨w.heap.size, 0, none⟩) n n f :=
  ⟨by rw [fv_len, Nat.mul_one], .inr ⟨w.heap.size, n, _, rfl, hB, heap_alloc_new w _, Nat.le_refl _, hn, by simp [fv_len], List.take_of_length_le (by rw [fv_len]; omega)⟩⟩
def szv (k : Nat) : Value := .int .i64 ((sz k : Nat) : Int)
theorem szv_10 : [Value.int .i64 1, .int .i64 2, .int .i64 4, .int .i64 4, .int .i64 2, .int .i64 4, .int .i64 8, .int .i64 4, .int .i64 2, .int .i64 4] = fv 10 szv := by
  simp [fv_snoc, fv_zero, szv, sz]
theorem rsizes_any (w : World) : Calls Tryz.prog 60 #[] w fun e w' => ∃ A c, e = .returned (.slice A 27 c) ∧ Hid (OV w.heap.size w' 3 A 27 c szv) ∧ Hid (Below w.heap.size w w') := by
  have HS := Lib.hid (made_ov w 3 10 szv w.heap.size (Nat.le_refl _) (by decide))
  rw [← szv_10] at HS
  have HB0 := Lib.hid (p := Below w.heap.size w (w.alloc (.cells [Value.int .i64 1, .int .i64 2, .int .i64 4, .int .i64 4, .int .i64 2, .int .i64 4, .int .i64 8, .int .i64 4, .int .i64 2, .int .i64 4].toArray 3))) ((Below.refl _ _).alloc (Nat.le_refl _) _)
  go_enter Tryz.func60, Tryz.ntmps60
  go_wp2
  go_loopw [1, 2] (fun x y wr => ∃ (k : Nat) (A : Option Addr) (m c : Nat), Hid (k ≤ 17) ∧ y = .int .i64 (k : Int) ∧ x = .slice A m c ∧ Hid (10 + k = m) ∧ Hid (OV w.heap.size wr 3 A m c szv) ∧ Hid (Below w.heap.size w wr)) (fun _ y _ => 17 - (intOf y).toNat)
  case atStart => exact ⟨0, some ⟨w.heap.size, 0, none⟩, 10, 10, Lib.hid (by omega), rfl, rfl, Lib.hid rfl, HS, HB0⟩
  case round =>
    clear HS HB0
    obtain ⟨k, A, m, c, HK, rfl, rfl, HM, HO, HB⟩ := hrel
    have hkw : IntKind.i64.wrap ((k : Int) + 1) = (k : Int) + 1 := by rw [IntKind.wrap_i64]; have := HK.out; omega
    by_cases hk : k < 17
    · have hki : (k : Int) < 17 := by omega
      have HKL := Lib.hid hk
      have HSZ := Lib.hid (p := szv m = .int .i64 2) (by unfold szv; rw [← HM.out, sz_slot]; rfl)
      clear hk
      go_wp2_with (at_builtin
                   refine wp_join rfl _ _ rfl rec_int w.heap.size (.slice A m c) m (fv m szv) rfl (HO.out.alloc _) (some ⟨wr.heap.size, 0, none⟩) 1 1 [.int .i64 2] rfl rfl (made_src wr [.int .i64 2] _) (by intro u hu; simp at hu; subst hu; rfl) (by have := HM.out; have := HKL.out; omega) (by have := HB.out.size; simp; omega) ?_
                   intro v1 w1 ho1 hg1 hat1
                   obtain ⟨A1, c1, rfl, ho2, hb2⟩ := OV.more HB.out HB.out.size HO.out HSZ.out ho1 hg1
                   have HO2 := Lib.hid ho2
                   have HB2 := Lib.hid hb2
                   clear ho1 hg1 hat1 ho2 hb2)
      go_roundw
      case rel => exact ⟨k + 1, A1, m + 1, c1, Lib.hid HKL.out, by go_num, rfl, Lib.hid (by have := HM.out; omega), HO2, HB2⟩
      case measure => have := HKL.out; simp [intOf]; omega
    · obtain rfl : k = 17 := by have := HK.out; omega
      obtain rfl : m = 27 := by have := HM.out; omega
      have hki : ¬ ((17 : Nat) : Int) < 17 := by omega
      clear hk
      go_wp2
      go_ret
      exact ⟨A, c, rfl, HO, HB⟩
end Go.Proofs.YtfbfeplegdpemaaGreat
/- The reference's numbers as a block. Conditions: those named. -/
set_option linter.unusedVariables false
set_option maxRecDepth 20000
namespace Go.Proofs.YtfbfeplegdpemaaGreat
open Go.RowKit

/-- Cells lie where the address says. -/
def HolV (w : World) (A : Option Addr) (n : Nat) (f : Nat → Value) : Prop := ∃ g, A = some ⟨g, 0, none⟩ ∧ ∀ j, j < n → w.cell? ⟨g, j, none⟩ = some (f j)
theorem HolV.below {w w' : World} {A : Option Addr} {n : Nat} {f : Nat → Value} (h : HolV w A n f) (hb : Below w.heap.size w w') : HolV w' A n f := by
  obtain ⟨g, rfl, hc⟩ := h
  exact ⟨g, rfl, fun j hj => (hb.cell (p := ⟨g, j, none⟩) (World.block_lt_of_cell? w _ (hc j hj))).trans (hc j hj)⟩
theorem rput_at (A : Option Addr) (c n : Nat) (l : List UInt8) (hn : l.length = n) (k x : Nat) (hk : k = 1 ∨ k = 2 ∨ k = 4 ∨ k = 8) (hx : x < 256 ^ k) (hl : n ≤ 256) (w : World) (hA : Hol w A l) :
    Calls Tryz.prog 97 #[.slice A n c, .int .i64 (k : Int), .int .u64 (x : Int)] w fun e w' => ∃ A' c', e = .returned (.tuple #[.slice A' (n + k) c', .int .i64 0]) ∧ Hid (w'.ownsRow w.heap.size 5 1 (.slice A' (n + k) c') (n + k) (bc (l ++ leb x k))) ∧ Hid (Below w.heap.size w w') := by
  have hx64 : x < 18446744073709551616 := by
    rcases hk with rfl | rfl | rfl | rfl
    · have e : (256 : Nat) ^ 1 = 256 := rfl
      omega
    · have e : (256 : Nat) ^ 2 = 65536 := rfl
      omega
    · have e : (256 : Nat) ^ 4 = 4294967296 := rfl
      omega
    · exact hx
  subst hn
  refine (rput_app A c l k x w hA hx64 (Nat.div_eq_of_lt hx) (by omega) (by omega) (by omega) (by rcases hk with rfl | rfl | rfl | rfl; exact .inl rfl; exact .inr (.inl ⟨rfl, rfl⟩); exact .inr (.inr (.inl ⟨rfl, rfl, rfl⟩)); exact .inr (.inr (.inr ⟨rfl, rfl, rfl, rfl⟩)))).mono ?_
  rintro e w' ⟨v, rfl, ho, hb⟩
  obtain ⟨A', c', rfl⟩ := own_sl ho
  exact ⟨A', c', rfl, Lib.hid ho, Lib.hid hb⟩
theorem off_mono (s : Nat → Nat) : ∀ {j k : Nat}, j ≤ k → off s j ≤ off s k
  | j, 0, h => by
    obtain rfl : j = 0 := by omega
    exact Nat.le_refl _
  | j, k + 1, h => by
    by_cases e : j = k + 1
    · rw [e]; exact Nat.le_refl _
    · exact Nat.le_trans (off_mono s (by omega)) (Nat.le_add_right _ _)
set_option maxHeartbeats 1000000 in
theorem rnumbers_any (s : Nat → Nat) (v : Nat → Int) (n : Nat) (AS AV : Option Addr) (cs cv : Nat) (hn : n ≤ 112) (hs : ∀ k, k < n → s k = 1 ∨ s k = 2 ∨ s k = 4 ∨ s k = 8) (hv : ∀ k, k < n → 0 ≤ v k ∧ (v k).toNat < 256 ^ s k) (ho : off s n ≤ 256) (w : World)
    (hS : HolV w AS n fun k => .int .i64 ((s k : Nat) : Int)) (hV : HolV w AV n fun k => .int .u64 (v k)) :
    Calls Tryz.prog 89 #[.slice AS n cs, .slice AV n cv] w fun e w' => ∃ A c, e = .returned (.slice A 256 c) ∧ Hid (w'.ownsRow w.heap.size 5 1 (.slice A 256 c) 256 (bc (blk s v n))) ∧ Hid (Below w.heap.size w w') := by
  obtain ⟨i, U⟩ := u8_tab
  have HN := Lib.hid hn
  have HS := Lib.hid hs
  have HV := Lib.hid hv
  have HOF := Lib.hid ho
  have HCS := Lib.hid hS
  have HCV := Lib.hid hV
  clear hn hs hv ho hS hV
  go_enter Tryz.func89, Tryz.ntmps89
  go_wp2
  go_loopw [5, 6] (fun x y wr => ∃ (k : Nat) (A : Option Addr) (q c : Nat), Hid (k ≤ n) ∧ y = .int .i64 (k : Int) ∧ x = .slice A q c ∧ Hid (off s k = q) ∧ Hid (wr.ownsRow w.heap.size 5 1 (.slice A q c) q (bc (nb s v k))) ∧ Hid (Below w.heap.size w wr)) (fun _ y _ => 112 - (intOf y).toNat)
  case atStart => exact ⟨0, none, 0, 0, Lib.hid (by omega), rfl, rfl, Lib.hid rfl, Lib.hid (World.ownsRow_nil _ _ _ _), Lib.hid (Below.refl _ _)⟩
  case round =>
    obtain ⟨k, A, q, c, HK, rfl, rfl, HQ, HO, HB⟩ := hrel
    have hkw : IntKind.i64.wrap ((k : Int) + 1) = (k : Int) + 1 := by rw [IntKind.wrap_i64]; have := HK.out; have := HN.out; omega
    by_cases hk : k < n
    · have hki : (k : Int) < (n : Int) := by omega
      have hk0 : (0 : Int) ≤ (k : Int) := by omega
      obtain ⟨gs, rfl, hcs⟩ := HCS.out.below HB.out
      obtain ⟨gv, rfl, hcv⟩ := HCV.out.below HB.out
      have c1 := hcs k hk
      have c2 := hcv k hk
      obtain ⟨z, hz⟩ : ∃ z, s k = z := ⟨_, rfl⟩
      obtain ⟨x, hx⟩ : ∃ x : Nat, v k = (x : Int) := ⟨(v k).toNat, by have := (HV.out k hk).1; omega⟩
      dsimp only at c1 c2
      rw [hz] at c1
      rw [hx] at c2
      have hlen : (nb s v k).length = q := by rw [nb_len]; exact HQ.out
      have hq256 : q + z ≤ 256 := by have h1 := off_mono s (show k + 1 ≤ n from hk); have h2 := HOF.out; have h3 : off s (k + 1) = off s k + s k := rfl; have h4 := HQ.out; omega
      have hp := HV.out k hk
      rw [hx, Int.toNat_natCast, hz] at hp
      have HP : Hid (∀ w1, Below wr.heap.size wr w1 → Calls Tryz.prog 97 #[.slice A q c, .int .i64 (z : Int), .int .u64 (x : Int)] w1 fun e w' => ∃ A' c', e = .returned (.tuple #[.slice A' (q + z) c', .int .i64 0]) ∧ Hid (w'.ownsRow w1.heap.size 5 1 (.slice A' (q + z) c') (q + z) (bc (nb s v k ++ leb x z))) ∧ Hid (Below w1.heap.size w1 w')) :=
        fun w1 hb => rput_at A c q (nb s v k) hlen z x (by rw [← hz]; exact HS.out k hk) hp.2 (by omega) w1 ((Hol.own HO.out).below hb)
      obtain ⟨q2, hq2⟩ : ∃ q2, q + z = q2 := ⟨_, rfl⟩
      rw [hq2] at HP
      have HE := Lib.hid (p := nb s v k ++ leb x z = nb s v (k + 1)) (by rw [nb_snoc, hx, Int.toNat_natCast, hz])
      have HQ2 := Lib.hid (p := off s (k + 1) = q2) (by rw [off, hz, HQ.out]; exact hq2)
      have HKL := Lib.hid hk
      clear hcs hcv hk hz hx hlen hq256 hp hq2
      go_wp2
      go_region_with (go_at_call 97; refine (HP.out _ ((Below.refl _ _).drew)).mono ?_; rintro e w2 ⟨A2, c3, rfl, ho2, hb2⟩
                      have HO2 := Lib.hid (p := w2.ownsRow w.heap.size 5 1 (.slice A2 q2 c3) q2 (bc (nb s v (k + 1)))) (by rw [← HE.out]; exact own_low ho2.out HB.out.drew.size)
                      have HB2 := Lib.hid (p := Below w.heap.size w w2) (below_nxt hb2.out HB.out.drew)
                      clear ho2 hb2)
      all_goals
        go_wp2
        go_roundw
        case rel => exact ⟨k + 1, A2, q2, c3, Lib.hid HKL.out, by go_num, rfl, HQ2, HO2, HB2⟩
        case measure => have := HKL.out; have := HN.out; simp [intOf]; omega
    · obtain rfl : k = n := by have := HK.out; omega
      have hki : ¬ (k : Int) < (k : Int) := by omega
      have HO0 := Lib.hid (p := wr.ownsRow w.heap.size 5 1 (.slice A q c) q (bc (nb s v k ++ List.replicate (q - q) 0))) (by rw [Nat.sub_self]; simpa using HO.out)
      clear hk HO
      go_wp2
      go_loopw [5] (fun x wr => ∃ (A : Option Addr) (m c : Nat), Hid (q ≤ m ∧ m ≤ 256) ∧ x = .slice A m c ∧ Hid (wr.ownsRow w.heap.size 5 1 (.slice A m c) m (bc (nb s v k ++ List.replicate (m - q) 0))) ∧ Hid (Below w.heap.size w wr)) (fun x _ => 256 - (match x with | .slice _ m _ => m | _ => 0))
      case atStart => exact ⟨A, q, c, Lib.hid ⟨Nat.le_refl _, by have := HQ.out; have := HOF.out; omega⟩, rfl, HO0, HB⟩
      case round =>
        clear HO0 HB
        obtain ⟨A, m, c, HM, rfl, HO, HB⟩ := hrel
        by_cases hm : m < 256
        · have hmi : (m : Int) < 256 := by omega
          have HML := Lib.hid hm
          clear hm
          go_wp2_with (at_builtin; refine wpList_app _ rfl _ _ _ rfl 5 i U w.heap.size _ m _ rfl (HO.out.alloc _) (some ⟨wr.heap.size, 0, none⟩) 1 1 [0] rfl rfl (hol_b _ _ 0 0 rfl) (by have := HML.out; omega) (by have := HB.out.size; simp; omega) ?_
                       intro v1 w1 ho1 hg1 hat1
                       obtain ⟨A1, c1, rfl⟩ := own_sl ho1
                       have HO1 := Lib.hid (p := w1.ownsRow w.heap.size 5 1 (.slice A1 (m + 1) c1) (m + 1) (bc (nb s v k ++ List.replicate (m + 1 - q) 0))) (by rw [show m + 1 - q = (m - q) + 1 by have := HM.out; omega, List.replicate_succ', ← List.append_assoc, bc_app]; exact ho1)
                       have HB1 := Lib.hid (p := Below w.heap.size w w1) ((HB.out.alloc HB.out.size _).grown hg1 (by have := HB.out.size; simp; omega) (fun j hj => (HO.out.lt j hj).1))
                       clear ho1 hg1 hat1)
          go_roundw
          case rel => exact ⟨A1, m + 1, c1, Lib.hid (by have := HM.out; have := HML.out; omega), rfl, HO1, HB1⟩
          case measure => have := HML.out; show 256 - (m + 1) < 256 - m; omega
        · obtain rfl : m = 256 := by have := HM.out; omega
          have hmi : ¬ ((256 : Nat) : Int) < 256 := by omega
          have HO2 := Lib.hid (p := wr.ownsRow w.heap.size 5 1 (.slice A 256 c) 256 (bc (blk s v k))) (by unfold blk; rw [HQ.out]; exact HO.out)
          clear hm HO
          go_wp2
          go_ret
          exact ⟨A, c, rfl, HO2, HB⟩
end Go.Proofs.YtfbfeplegdpemaaGreat
/- The reference's answers: whether an inode may be. Conditions: those named. -/
set_option linter.unusedVariables false
set_option maxRecDepth 20000
namespace Go.Proofs.YtfbfeplegdpemaaGreat
open Go.RowKit

theorem rin_any (v b : Int) (w : World) : Calls Tryz.prog 113 #[.int .i64 v, .int .i64 b] w fun e w' => e = .returned (.bool (inB v 0 b)) ∧ w = w' := by
  unfold inB
  by_cases h0 : 0 ≤ v
  · rw [decide_eq_true h0, Bool.true_and]
    go_enter Tryz.func113, Tryz.ntmps113
    go_wp2
    go_ret
    exact ⟨rfl, rfl⟩
  · rw [decide_eq_false h0, Bool.false_and]
    go_enter Tryz.func113, Tryz.ntmps113
    go_wp2
    go_ret
    exact ⟨rfl, rfl⟩
/-- A slot that is none. -/
theorem rmay_bad (v : Nat → Int) (hs : slotB (fun j => v (10 + j)) 16 = false) (w : World) : Calls Tryz.prog 88 #[.agg (ncs v).toArray] w fun e w' => e = .returned (.bool false) ∧ Below w.heap.size w w' := by
  have HS := Lib.hid hs
  clear hs
  go_enter Tryz.func88, Tryz.ntmps88
  go_wp2_with (refine step_box rfl 1 rfl 44 (.tmp 0) rfl (ncs v) rfl ?_; intro g2 w2 hr2 hg2 hb2 hs2
               have R2 := Lib.hid hr2
               have HB2 := Lib.hid hb2
               clear hr2 hb2 hg2 hs2)
  go_loop [3] (fun y => ∃ k : Nat, k ≤ 16 ∧ y = .int .i64 (k : Int) ∧ Hid (slotB (fun j => v (10 + j)) k = true)) (fun y => 16 - (intOf y).toNat)
  case atStart => exact ⟨0, by omega, rfl, Lib.hid rfl⟩
  case round =>
    obtain ⟨k, hk, rfl, HK⟩ := hrel
    have hkw : IntKind.i64.wrap ((k : Int) + 1) = (k : Int) + 1 := by rw [IntKind.wrap_i64]; omega
    have hk16 : k < 16 := by
      refine Nat.lt_of_le_of_ne hk fun e => ?_
      have h1 := HK.out
      rw [e, HS.out] at h1
      cases h1
    have hki : (k : Int) < 16 := by omega
    have hk0 : (0 : Int) ≤ (k : Int) := by omega
    obtain ⟨z, hz⟩ : ∃ z, v (10 + k) = z := ⟨_, rfl⟩
    have ck : w2.cell? ⟨g2, 10 + k, none⟩ = some (.int .i64 z) := by rw [R2.out.cell, ncs_slot v (by omega), hz]
    have HKL := Lib.hid hk16
    cases hb : inB z 0 255
    · have HB := Lib.hid hb
      clear hk hk16 hz hb
      go_wp2_with (go_at_call 113; refine (rin_any _ _ _).mono ?_; rintro e w' ⟨rfl, rfl⟩; rw [HB.out])
      go_ret
      exact ⟨rfl, HB2.out⟩
    · have HS2 := Lib.hid (p := slotB (fun j => v (10 + j)) (k + 1) = true) (by rw [slotB_succ, HK.out]; show (true && inB (v (10 + k)) 0 255) = true; rw [hz, hb]; rfl)
      have HB := Lib.hid hb
      clear hk hk16 hz hb
      go_wp2_with (go_at_call 113; refine (rin_any _ _ _).mono ?_; rintro e w' ⟨rfl, rfl⟩; rw [HB.out])
      go_round
      case rel => exact ⟨k + 1, HKL.out, by go_num, HS2⟩
      case measure => have := HKL.out; simp [intOf]; omega
theorem eightt (b0 b1 b2 b3 b4 b5 b6 b7 : Bool) : (b0 = false) ∨ (b0 = true ∧ b1 = false) ∨ (b0 = true ∧ b1 = true ∧ b2 = false) ∨ (b0 = true ∧ b1 = true ∧ b2 = true ∧ b3 = false) ∨ (b0 = true ∧ b1 = true ∧ b2 = true ∧ b3 = true ∧ b4 = false) ∨ (b0 = true ∧ b1 = true ∧ b2 = true ∧ b3 = true ∧ b4 = true ∧ b5 = false) ∨ (b0 = true ∧ b1 = true ∧ b2 = true ∧ b3 = true ∧ b4 = true ∧ b5 = true ∧ b6 = false) ∨ (b0 = true ∧ b1 = true ∧ b2 = true ∧ b3 = true ∧ b4 = true ∧ b5 = true ∧ b6 = true ∧ b7 = false) ∨ (b0 = true ∧ b1 = true ∧ b2 = true ∧ b3 = true ∧ b4 = true ∧ b5 = true ∧ b6 = true ∧ b7 = true) := by
  cases b0
  case false => exact .inl rfl
  cases b1
  case false => exact .inr (.inl ⟨rfl, rfl⟩)
  cases b2
  case false => exact .inr (.inr (.inl ⟨rfl, rfl, rfl⟩))
  cases b3
  case false => exact .inr (.inr (.inr (.inl ⟨rfl, rfl, rfl, rfl⟩)))
  cases b4
  case false => exact .inr (.inr (.inr (.inr (.inl ⟨rfl, rfl, rfl, rfl, rfl⟩))))
  cases b5
  case false => exact .inr (.inr (.inr (.inr (.inr (.inl ⟨rfl, rfl, rfl, rfl, rfl, rfl⟩)))))
  cases b6
  case false => exact .inr (.inr (.inr (.inr (.inr (.inr (.inl ⟨rfl, rfl, rfl, rfl, rfl, rfl, rfl⟩))))))
  cases b7
  case false => exact .inr (.inr (.inr (.inr (.inr (.inr (.inr (.inl ⟨rfl, rfl, rfl, rfl, rfl, rfl, rfl, rfl⟩)))))))
  exact .inr (.inr (.inr (.inr (.inr (.inr (.inr (.inr (⟨rfl, rfl, rfl, rfl, rfl, rfl, rfl, rfl⟩))))))))
set_option maxHeartbeats 2000000 in
theorem rmay_good (v : Nat → Int) (hw : Wf v) (hs : slotB (fun j => v (10 + j)) 16 = true) (w : World) : Calls Tryz.prog 88 #[.agg (ncs v).toArray] w fun e w' => e = .returned (.bool (mayB v)) ∧ Below w.heap.size w w' := by
  have hmay : mayB v = (decide (1 ≤ v 0) && (decide (v 0 ≤ 3) && (inB (v 1) 0 511 && (inB (v 4) 0 32768 && (inB (v 5) 0 32768 && (decide (0 < v 6) && (inB (v 8) 0 64 && inB (v 26) 0 255))))))) := by
    have h6 : (!(v 6 == 0)) = decide (0 < v 6) := by
      have := hw.s
      rw [Bool.eq_iff_iff]
      simp
      omega
    unfold mayB
    rw [hs, h6]
    show ((decide (1 ≤ v 0) && decide (v 0 ≤ 3)) && _) = _
    rw [Bool.and_assoc]
    rfl
  rw [hmay]
  have HSA := Lib.hid (p := ∀ k, k < 16 → inB (v (10 + k)) 0 255 = true) (fun k hk => (inB_iff _ _ _).2 ((slotB_iff _ _).1 hs k hk))
  have HV := Lib.hid (p := ∀ (w : World) (g : Nat), Row w g 44 (ncs v) → w.cell? ⟨g, 26, none⟩ = some (.int .i64 (v 26))) (fun w g h => by rw [h.cell]; rfl)
  clear hmay hs hw
  generalize hb7 : inB (v 26) 0 255 = b7 at *
  generalize hb6 : inB (v 8) 0 64 = b6
  generalize hb5 : decide (0 < v 6) = b5
  generalize hb4 : inB (v 5) 0 32768 = b4
  generalize hb3 : inB (v 4) 0 32768 = b3
  generalize hb2 : inB (v 1) 0 511 = b2
  generalize hb1 : decide (v 0 ≤ 3) = b1
  generalize hb0 : decide (1 ≤ v 0) = b0
  have W2 := Lib.hid hb2
  have W3 := Lib.hid hb3
  have W4 := Lib.hid hb4
  have W6 := Lib.hid hb6
  have W7 := Lib.hid hb7
  obtain ⟨z0, hz0⟩ : ∃ z, v 0 = z := ⟨_, rfl⟩
  obtain ⟨z6, hz6⟩ : ∃ z, v 6 = z := ⟨_, rfl⟩
  rw [hz0] at hb0 hb1
  rw [hz6] at hb5
  have HZ0 := Lib.hid hz0
  have HZ6 := Lib.hid hz6
  clear hb2 hb3 hb4 hb6 hb7 hz0 hz6
  rcases eightt b0 b1 b2 b3 b4 b5 b6 b7 with ⟨rfl⟩ | ⟨rfl, rfl⟩ | ⟨rfl, rfl, rfl⟩ | ⟨rfl, rfl, rfl, rfl⟩ | ⟨rfl, rfl, rfl, rfl, rfl⟩ | ⟨rfl, rfl, rfl, rfl, rfl, rfl⟩ | ⟨rfl, rfl, rfl, rfl, rfl, rfl, rfl⟩ | ⟨rfl, rfl, rfl, rfl, rfl, rfl, rfl, rfl⟩ | ⟨rfl, rfl, rfl, rfl, rfl, rfl, rfl, rfl⟩
  all_goals
    try simp only [decide_eq_true_eq, decide_eq_false_iff_not] at hb0
    try simp only [decide_eq_true_eq, decide_eq_false_iff_not] at hb1
    try simp only [decide_eq_true_eq, decide_eq_false_iff_not] at hb5
    go_enter Tryz.func88, Tryz.ntmps88
    go_wp2_with (refine step_box rfl 1 rfl 44 (.tmp 0) rfl (ncs v) rfl ?_; intro g2 w2 hr2 hg2 hb2 hs2
                 have R2 := Lib.hid hr2
                 have HB2 := Lib.hid hb2
                 clear hr2 hb2 hg2 hs2)
    go_loop [3] (fun y => ∃ k : Nat, k ≤ 16 ∧ y = .int .i64 (k : Int) ∧ Hid (slotB (fun j => v (10 + j)) k = true)) (fun y => 16 - (intOf y).toNat)
    case atStart => exact ⟨0, by omega, rfl, Lib.hid rfl⟩
    case round =>
      obtain ⟨k, hk, rfl, HK⟩ := hrel
      have hkw : IntKind.i64.wrap ((k : Int) + 1) = (k : Int) + 1 := by rw [IntKind.wrap_i64]; omega
      by_cases hk16 : k < 16
      · have hki : (k : Int) < 16 := by omega
        have hk0 : (0 : Int) ≤ (k : Int) := by omega
        obtain ⟨z, hz⟩ : ∃ z, v (10 + k) = z := ⟨_, rfl⟩
        have ck : w2.cell? ⟨g2, 10 + k, none⟩ = some (.int .i64 z) := by rw [R2.out.cell, ncs_slot v (by omega), hz]
        have hb := HSA.out k hk16
        rw [hz] at hb
        have HKL := Lib.hid hk16
        have HS2 := Lib.hid (p := slotB (fun j => v (10 + j)) (k + 1) = true) (by rw [slotB_succ, HK.out]; show (true && inB (v (10 + k)) 0 255) = true; rw [hz, hb]; rfl)
        have HB := Lib.hid hb
        clear hk hk16 hz hb
        go_wp2_with (go_at_call 113; refine (rin_any _ _ _).mono ?_; rintro e w' ⟨rfl, rfl⟩; rw [HB.out])
        go_round
        case rel => exact ⟨k + 1, HKL.out, by go_num, HS2⟩
        case measure => have := HKL.out; simp [intOf]; omega
      · obtain rfl : k = 16 := by omega
        have hki : ¬ ((16 : Nat) : Int) < 16 := by omega
        have c0 : w2.cell? ⟨g2, 0, none⟩ = some (.int .i64 z0) := by rw [R2.out.cell, ← HZ0.out]; rfl
        have c1 : w2.cell? ⟨g2, 1, none⟩ = some (.int .i64 (v 1)) := by rw [R2.out.cell]; rfl
        have c4 : w2.cell? ⟨g2, 4, none⟩ = some (.int .i64 (v 4)) := by rw [R2.out.cell]; rfl
        have c5 : w2.cell? ⟨g2, 5, none⟩ = some (.int .i64 (v 5)) := by rw [R2.out.cell]; rfl
        have c6 : w2.cell? ⟨g2, 6, none⟩ = some (.int .u64 z6) := by rw [R2.out.cell, ← HZ6.out]; rfl
        have c8 : w2.cell? ⟨g2, 8, none⟩ = some (.int .i64 (v 8)) := by rw [R2.out.cell]; rfl
        have c26 := HV.out w2 g2 R2.out
        generalize v 1 = z1 at *
        generalize v 4 = z4 at *
        generalize v 5 = z5 at *
        generalize v 8 = z8 at *
        clear hk hk16
        go_wp2_with (go_at_call 113; refine (rin_any _ _ _).mono ?_; rintro e w' ⟨rfl, rfl⟩; first | rw [W2.out] | rw [W3.out] | rw [W4.out] | rw [W6.out] | rw [W7.out])
        go_ret
        exact ⟨rfl, HB2.out⟩
theorem irmay_any (v : Nat → Int) (hw : Wf v) (w : World) : Calls Tryz.prog 88 #[.agg (ncs v).toArray] w fun e w' => e = .returned (.bool (mayB v)) ∧ Below w.heap.size w w' := by
  cases hs : slotB (fun j => v (10 + j)) 16
  · have h : mayB v = false := by
      cases h : mayB v
      · rfl
      · rw [(slotB_iff _ _).2 ((mayB_iff v).1 h).2.2.2.2.2.2.1] at hs
        cases hs
    rw [h]
    exact rmay_bad v hs w
  · exact rmay_good v hw hs w
end Go.Proofs.YtfbfeplegdpemaaGreat
