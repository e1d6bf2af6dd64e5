/- Package dir: a leaf. Conditions: no more than a million entries, whose numbers have their room. -/
import Derived.Test.YtijffkklhgnknaaDoorMgRc
import Derived.Test.YtijffkklhgnknaaDoorQq
set_option linter.unusedVariables false
set_option maxRecDepth 20000
namespace Go.Proofs.YtijffkklhgnknaaDoor
open Go.RowKit

theorem info_u8 : (Tryd.prog.info? 5).map (·.size) = some 1 := by kernel_rfl
/-- Entries whose numbers have their room in an entry's bytes. -/
def NiceL (X : List Ent) : Prop := ∀ e ∈ X, ∃ i k s, Nice e i k s ∧ s ≤ 200
def LeafP (w : World) (X : List Ent) (e : Ending) (w' : World) : Prop :=
  ∃ A' c', e = .returned (.tuple #[.slice A' 256 c', .int .i64 (fitL 255 X : Nat)]) ∧ w'.ownsRow w.heap.size 5 1 (.slice A' 256 c') 256 (bc (leafB X)) ∧ Below w.heap.size w w'
set_option maxHeartbeats 4000000 in
theorem leaf_all (A : Option Addr) (n c : Nat) (X : List Ent) (hmax : n ≤ 1000000) (w : World) (h : Lies ecs 5 w A X) (hn : X.length = n) (hN : NiceL X) (hend : fitL 255 X = n) : Calls Tryd.prog 26 #[.slice A n c] w (LeafP w X) := by
  obtain ⟨i, U⟩ := u8_tab
  have H := Lib.hid h
  have HN := Lib.hid (And.intro hmax hn)
  have HNI := Lib.hid hN
  obtain ⟨K, hK⟩ : ∃ K, fitL 255 X = K := ⟨_, rfl⟩
  have HKN := Lib.hid (p := K ≤ n) (by rw [← hK, ← hn]; exact fitL_le X 255)
  have HIN := Lib.hid (p := ∀ (k : Nat) (x : Ent), X[k]? = some x → k < K → (packL (X.take k)).length + (enb x).length ≤ 255) (fun k x hx hk => fitL_in X 255 k x hx (by omega))
  have HOUT := Lib.hid (p := ∀ (x : Ent), X[K]? = some x → 255 < (packL (X.take K)).length + (enb x).length) (fun x hx => by have := fitL_out X 255 x (by rw [hK]; exact hx); rw [hK] at this; exact this)
  have HPL := Lib.hid (p := (packL (X.take K)).length ≤ 255) (by rw [← hK]; exact fitL_pack X 255)
  have HLF0 := Lib.hid (p := UInt8.ofNat K :: (packL (X.take K) ++ List.replicate (255 - (packL (X.take K)).length) 0) = leafB X) (by rw [← hK]; rfl)
  rw [hK] at hend
  unfold LeafP
  rw [hK]
  have HEND := Lib.hid hend
  have HK255 := Lib.hid (p := K < 256) (by
    have h1 := HPL.out
    have h2 : ∀ L : List Ent, L.length ≤ (packL L).length := fun L => by
      induction L with
      | nil => exact Nat.le_refl _
      | cons y L ih => simp only [packL, List.flatMap_cons, List.length_append, List.length_cons] at ih ⊢; have := enb_len y; omega
    have h3 := h2 (X.take K)
    rw [List.length_take] at h3
    have := HKN.out
    omega)
  have HNUM := Lib.hid (p := ∀ w, Calls Tryd.prog 48 #[.slice none 0 0, .int .i64 1, .int .u64 (K : Int)] w (ByP w 1 [UInt8.ofNat K])) (fun w => by
    have h := dnumber_any none 0 0 [] 1 K 1 rfl rfl w (.inl rfl) (.inl rfl) (by have := HK255.out; omega) (by decide)
    rwa [show ([] : List UInt8) ++ leb K 1 = [UInt8.ofNat K] by simp [leb]] at h)
  have uK := u64_nat K (by have := HK255.out; omega)
  clear h hmax hn hN hK hend
  go_enter Tryd.func26, Tryd.ntmps26
  go_wp2
  go_loopw [4, 5, 12] (fun x y z wr => ∃ (k : Nat) (A' : Option Addr) (m c' : Nat), z = .int .i64 (k : Int) ∧ y = .int .i64 (k : Int) ∧ x = .slice A' m c' ∧ Hid (k ≤ K) ∧ Hid (m = (packL (X.take k)).length) ∧ Hid (wr.ownsRow w.heap.size 5 1 (.slice A' m c') m (bc (packL (X.take k)))) ∧ Hid (Below w.heap.size w wr)) (fun _ _ z _ => n - (intOf z).toNat)
  case atStart => exact ⟨0, none, 0, 0, rfl, rfl, rfl, Lib.hid (Nat.zero_le _), Lib.hid rfl, Lib.hid (World.ownsRow_nil _ _ _ _), Lib.hid (Below.refl _ _)⟩
  case round =>
    obtain ⟨k, A', m, c', rfl, rfl, rfl, HKL, HM, HO, HB⟩ := hrel
    rename World => wr
    by_cases hk : k < K
    · have hkn : k < n := by have := HKN.out; omega
      have hki : (k : Int) < (n : Int) := by omega
      have hkw : IntKind.i64.wrap ((k : Int) + 1) = (k : Int) + 1 := by rw [IntKind.wrap_i64]; have := HN.out; omega
      have hkx : k < X.length := by have := HN.out; omega
      obtain ⟨g0, o0, rfl, hc⟩ := (H.out.below HB.out).at_ hkx
      obtain ⟨x, hx⟩ : ∃ x, X[k] = x := ⟨_, rfl⟩
      rw [hx] at hc
      have HX := Lib.hid (p := X[k]? = some x) (by rw [List.getElem?_eq_getElem hkx, hx])
      have HR := Lib.hid (p := wr.rangeAt g0 (o0 + k * 5) (ecs x)) (fun i u hu => hc i u hu)
      obtain ⟨ia, ka, sa, hnice, hs200⟩ := HNI.out x (List.mem_of_getElem? HX.out)
      obtain ⟨q, hq⟩ : ∃ q, 16 + sa = q := ⟨_, rfl⟩
      have HPK := Lib.hid (fun w => packed_any x ia ka sa hnice w)
      rw [hq] at HPK
      have hql : q = (enb x).length := by rw [enb_len, hnice.nm]; exact hq.symm
      have hin := HIN.out k x HX.out hk
      rw [← HM.out, ← hql] at hin
      have HQ := Lib.hid hql
      have HQ48 := Lib.hid (p := q ≤ 1000) (by omega)
      have HM255 := Lib.hid (p := m ≤ 255) (by omega)
      obtain ⟨t1, ht1⟩ : ∃ t, 1 + m = t := ⟨_, rfl⟩
      obtain ⟨t2, ht2⟩ : ∃ t, t1 + q = t := ⟨_, rfl⟩
      have a1 : IntKind.i64.wrap (1 + (m : Int)) = (t1 : Int) := by rw [IntKind.wrap_i64]; omega
      have a2 : IntKind.i64.wrap ((t1 : Int) + (q : Int)) = (t2 : Int) := by rw [IntKind.wrap_i64]; omega
      have a3 : ¬ (256 : Int) < (t2 : Int) := by omega
      have HK := Lib.hid hk
      have HMQ := Lib.hid (p := m + q = (packL (X.take (k + 1))).length) (by rw [packL_snoc HX.out, List.length_append, ← HM.out, ← HQ.out])
      clear hc hx hkx hk hkn hnice hs200 hq hql hin ht1 ht2
      go_wp2_with (first
          | (refine wpList_load_mid rfl 42 (.tmp 14) rfl g0 (o0 + k * 5) rfl (ecs x) _ HR.out Tryd.underlying42 rfl (info_ent x) ?_)
          | (refine step_alloc rfl 7 rfl 42 rfl (ecs ent0) zero_ent ?_; intro g7 w2 hr2 hg2 hb2 hs2
             have HR2 := Lib.hid hr2
             have HB2 := Lib.hid hb2
             have HG2 := hg2
             clear hr2 hg2 hb2 hs2)
          | (refine step_store rfl 42 _ _ rfl g7 rfl 42 (ecs ent0) (ecs x) rfl HR2.out rfl (info_ent x) (ecs_one x) ?_; intro w3 hr3 hg3 hs3
             have HR3 := Lib.hid hr3
             have HB3 := Lib.hid (HB2.out.grown hg3 HB2.out.size (fun q hq => by injection hq with hq; subst hq; exact Nat.le_of_eq HG2.out.symm))
             clear hr3 hg3 hs3)
          | (refine step_load rfl 16 rfl 42 (.tmp 7) rfl g7 rfl (ecs x) _ HR3.out.all Tryd.underlying42 rfl (info_ent x) ?_)
          | (go_at_call 47; refine (HPK.out _).mono ?_; rintro e w4 ⟨A4, c4, rfl, ho, hb⟩
             have HB4 := Lib.hid (below_nxt hb HB3.out)
             have HO4 := Lib.hid (Hol.own ho)
             have HE4 := Lib.hid (own_kept HO.out HB4.out)
             clear ho hb)
          | (at_builtin
             refine wpList_app _ rfl _ _ 33 rfl 5 i U w.heap.size (.slice A' m c') m (bc (packL (X.take k))) rfl HE4.out A4 q c4 (enb x) rfl HQ.out HO4.out (by have := HM255.out; have := HQ48.out; omega) (by have := HB.out.size; have := HB4.out.size; omega) ?_
             intro v1 w5 ho1 hg1 hat1
             have HO2 := Lib.hid ho1
             obtain ⟨A1, c1', rfl⟩ := own_sl ho1
             have HB5 := Lib.hid ((below_nxt HB4.out HB.out).grown hg1 (by have := HB.out.size; have := HB4.out.size; omega) (fun k hk => (HE4.out.lt k hk).1))
             clear ho1 hg1 hat1))
      go_roundw
      case rel => exact ⟨k + 1, A1, m + q, c1', by go_num, by go_num, rfl, Lib.hid HK.out, HMQ, Lib.hid (by rw [packL_snoc HX.out, bc_app]; exact HO2.out), HB5⟩
      case measure => have := HK.out; have := HKN.out; simp [intOf]; omega
    · have hke : k = K := by have := HKL.out; omega
      obtain rfl := hke
      obtain ⟨E, hE⟩ : ∃ E, packL (X.take k) = E := ⟨_, rfl⟩
      rw [hE] at HM HO HLF0 HPL
      have HM255 := Lib.hid (p := m ≤ 255) (by have h1 := HPL.out; rw [← HM.out] at h1; exact h1)
      have HME := HM
      have hki : ¬ (k : Int) < (n : Int) := by have := HEND.out; omega
      have HBW := HB
      have HLF := HLF0
      have HOL := Lib.hid (Hol.own HO.out)
      have HFAR := Lib.hid (p := ∀ (g off : Nat), A' = some ⟨g, off, none⟩ → g < wr.heap.size) (fun g off hA => by subst hA; exact (HO.out.lt _ rfl).2)
      clear hE hk
      go_wp2_with (first
        | (refine step_make rfl _ _ 33 5 i U rfl 256 rfl rfl (by omega) ?_; intro g9 w5 hr5 hg5 hb5 hs5
           have R5 := Lib.hid hr5
           have G5 := Lib.hid (p := w.heap.size ≤ g9) (by have h1 := hg5.out; have h2 := HBW.out.size; omega)
           have BW5 := Lib.hid hb5
           have HG9 := hg5
           have B5 := Lib.hid (below_nxt hb5 HBW.out)
           clear hr5 hg5 hb5 hs5)
        | (go_at_call 48; refine (HNUM.out _).mono ?_; rintro e w6 ⟨A6, c6, rfl, ho, hb⟩
           have O6 := Lib.hid (Hol.own ho)
           have R6 := Lib.hid (R5.out.kept hb)
           have BW6 := Lib.hid (below_nxt hb BW5.out)
           have B6 := Lib.hid (below_nxt hb B5.out)
           clear ho hb HNUM)
        | (refine wp_copy rfl (.tmp 32) (.tmp 35) 33 33 rfl 5 U.ht info_u8 g9 0 256 256 256 5 (fun _ => 0) rfl R6.out A6 1 c6 [UInt8.ofNat k] rfl rfl O6.out (by decide) ?_; intro w7 k7 hr7 hu7
           have R7 := Lib.hid hr7
           have U7 := hu7
           have B7 := Lib.hid (B6.out.grown hu7.out.by_ B6.out.size (fun q hq => by injection hq with hq; subst hq; exact G5.out))
           clear hr7 hu7)
        | (have HL7 := Lib.hid ((HOL.out.below BW6.out).grown U7.out.by_ (fun g off hA hq => by injection hq with hq; have h1 := HFAR.out g off hA; have h2 := HG9.out; omega))
           refine wp_copy rfl (.tmp 38) (.tmp 39) 33 33 rfl 5 U.ht info_u8 g9 1 256 255 255 5 _ rfl R7.out A' m c' E rfl HME.out HL7.out (by have := HM255.out; have : Nat.min m 255 ≤ 255 := Nat.min_le_right _ _; omega) ?_; intro w8 k8 hr8 hu8
           have R8 := Lib.hid hr8
           have B8 := Lib.hid (B7.out.grown hu8.out.by_ B7.out.size (fun q hq => by injection hq with hq; subst hq; exact G5.out))
           clear hr8 hu8))
      go_ret2
      refine ⟨some ⟨g9, 0, none⟩, 256, rfl, ?_, B8.out⟩
      have h1 := own8_row R8.out G5.out (by decide)
      rw [List.take_of_length_le (by rw [← HME.out]; exact HM255.out), show ([UInt8.ofNat k] : List UInt8).take 256 = [UInt8.ofNat k] from rfl, leaf_lst _ _ (by rw [← HME.out]; exact HM255.out), HLF.out] at h1
      exact h1
set_option maxHeartbeats 4000000 in
theorem leaf_some (A : Option Addr) (n c : Nat) (X : List Ent) (hmax : n ≤ 1000000) (w : World) (h : Lies ecs 5 w A X) (hn : X.length = n) (hN : NiceL X) (hend : fitL 255 X < n) : Calls Tryd.prog 26 #[.slice A n c] w (LeafP w X) := by
  obtain ⟨i, U⟩ := u8_tab
  have H := Lib.hid h
  have HN := Lib.hid (And.intro hmax hn)
  have HNI := Lib.hid hN
  obtain ⟨K, hK⟩ : ∃ K, fitL 255 X = K := ⟨_, rfl⟩
  have HKN := Lib.hid (p := K ≤ n) (by rw [← hK, ← hn]; exact fitL_le X 255)
  have HIN := Lib.hid (p := ∀ (k : Nat) (x : Ent), X[k]? = some x → k < K → (packL (X.take k)).length + (enb x).length ≤ 255) (fun k x hx hk => fitL_in X 255 k x hx (by omega))
  have HOUT := Lib.hid (p := ∀ (x : Ent), X[K]? = some x → 255 < (packL (X.take K)).length + (enb x).length) (fun x hx => by have := fitL_out X 255 x (by rw [hK]; exact hx); rw [hK] at this; exact this)
  have HPL := Lib.hid (p := (packL (X.take K)).length ≤ 255) (by rw [← hK]; exact fitL_pack X 255)
  have HLF0 := Lib.hid (p := UInt8.ofNat K :: (packL (X.take K) ++ List.replicate (255 - (packL (X.take K)).length) 0) = leafB X) (by rw [← hK]; rfl)
  rw [hK] at hend
  unfold LeafP
  rw [hK]
  have HEND := Lib.hid hend
  have HK255 := Lib.hid (p := K < 256) (by
    have h1 := HPL.out
    have h2 : ∀ L : List Ent, L.length ≤ (packL L).length := fun L => by
      induction L with
      | nil => exact Nat.le_refl _
      | cons y L ih => simp only [packL, List.flatMap_cons, List.length_append, List.length_cons] at ih ⊢; have := enb_len y; omega
    have h3 := h2 (X.take K)
    rw [List.length_take] at h3
    have := HKN.out
    omega)
  have HNUM := Lib.hid (p := ∀ w, Calls Tryd.prog 48 #[.slice none 0 0, .int .i64 1, .int .u64 (K : Int)] w (ByP w 1 [UInt8.ofNat K])) (fun w => by
    have h := dnumber_any none 0 0 [] 1 K 1 rfl rfl w (.inl rfl) (.inl rfl) (by have := HK255.out; omega) (by decide)
    rwa [show ([] : List UInt8) ++ leb K 1 = [UInt8.ofNat K] by simp [leb]] at h)
  have uK := u64_nat K (by have := HK255.out; omega)
  clear h hmax hn hN hK hend
  go_enter Tryd.func26, Tryd.ntmps26
  go_wp2
  go_loopw [4, 5, 12] (fun x y z wr => ∃ (k : Nat) (A' : Option Addr) (m c' : Nat), z = .int .i64 (k : Int) ∧ y = .int .i64 (k : Int) ∧ x = .slice A' m c' ∧ Hid (k ≤ K) ∧ Hid (m = (packL (X.take k)).length) ∧ Hid (wr.ownsRow w.heap.size 5 1 (.slice A' m c') m (bc (packL (X.take k)))) ∧ Hid (Below w.heap.size w wr)) (fun _ _ z _ => n - (intOf z).toNat)
  case atStart => exact ⟨0, none, 0, 0, rfl, rfl, rfl, Lib.hid (Nat.zero_le _), Lib.hid rfl, Lib.hid (World.ownsRow_nil _ _ _ _), Lib.hid (Below.refl _ _)⟩
  case round =>
    obtain ⟨k, A', m, c', rfl, rfl, rfl, HKL, HM, HO, HB⟩ := hrel
    rename World => wr
    by_cases hk : k < K
    · have hkn : k < n := by have := HKN.out; omega
      have hki : (k : Int) < (n : Int) := by omega
      have hkw : IntKind.i64.wrap ((k : Int) + 1) = (k : Int) + 1 := by rw [IntKind.wrap_i64]; have := HN.out; omega
      have hkx : k < X.length := by have := HN.out; omega
      obtain ⟨g0, o0, rfl, hc⟩ := (H.out.below HB.out).at_ hkx
      obtain ⟨x, hx⟩ : ∃ x, X[k] = x := ⟨_, rfl⟩
      rw [hx] at hc
      have HX := Lib.hid (p := X[k]? = some x) (by rw [List.getElem?_eq_getElem hkx, hx])
      have HR := Lib.hid (p := wr.rangeAt g0 (o0 + k * 5) (ecs x)) (fun i u hu => hc i u hu)
      obtain ⟨ia, ka, sa, hnice, hs200⟩ := HNI.out x (List.mem_of_getElem? HX.out)
      obtain ⟨q, hq⟩ : ∃ q, 16 + sa = q := ⟨_, rfl⟩
      have HPK := Lib.hid (fun w => packed_any x ia ka sa hnice w)
      rw [hq] at HPK
      have hql : q = (enb x).length := by rw [enb_len, hnice.nm]; exact hq.symm
      have hin := HIN.out k x HX.out hk
      rw [← HM.out, ← hql] at hin
      have HQ := Lib.hid hql
      have HQ48 := Lib.hid (p := q ≤ 1000) (by omega)
      have HM255 := Lib.hid (p := m ≤ 255) (by omega)
      obtain ⟨t1, ht1⟩ : ∃ t, 1 + m = t := ⟨_, rfl⟩
      obtain ⟨t2, ht2⟩ : ∃ t, t1 + q = t := ⟨_, rfl⟩
      have a1 : IntKind.i64.wrap (1 + (m : Int)) = (t1 : Int) := by rw [IntKind.wrap_i64]; omega
      have a2 : IntKind.i64.wrap ((t1 : Int) + (q : Int)) = (t2 : Int) := by rw [IntKind.wrap_i64]; omega
      have a3 : ¬ (256 : Int) < (t2 : Int) := by omega
      have HK := Lib.hid hk
      have HMQ := Lib.hid (p := m + q = (packL (X.take (k + 1))).length) (by rw [packL_snoc HX.out, List.length_append, ← HM.out, ← HQ.out])
      clear hc hx hkx hk hkn hnice hs200 hq hql hin ht1 ht2
      go_wp2_with (first
          | (refine wpList_load_mid rfl 42 (.tmp 14) rfl g0 (o0 + k * 5) rfl (ecs x) _ HR.out Tryd.underlying42 rfl (info_ent x) ?_)
          | (refine step_alloc rfl 7 rfl 42 rfl (ecs ent0) zero_ent ?_; intro g7 w2 hr2 hg2 hb2 hs2
             have HR2 := Lib.hid hr2
             have HB2 := Lib.hid hb2
             have HG2 := hg2
             clear hr2 hg2 hb2 hs2)
          | (refine step_store rfl 42 _ _ rfl g7 rfl 42 (ecs ent0) (ecs x) rfl HR2.out rfl (info_ent x) (ecs_one x) ?_; intro w3 hr3 hg3 hs3
             have HR3 := Lib.hid hr3
             have HB3 := Lib.hid (HB2.out.grown hg3 HB2.out.size (fun q hq => by injection hq with hq; subst hq; exact Nat.le_of_eq HG2.out.symm))
             clear hr3 hg3 hs3)
          | (refine step_load rfl 16 rfl 42 (.tmp 7) rfl g7 rfl (ecs x) _ HR3.out.all Tryd.underlying42 rfl (info_ent x) ?_)
          | (go_at_call 47; refine (HPK.out _).mono ?_; rintro e w4 ⟨A4, c4, rfl, ho, hb⟩
             have HB4 := Lib.hid (below_nxt hb HB3.out)
             have HO4 := Lib.hid (Hol.own ho)
             have HE4 := Lib.hid (own_kept HO.out HB4.out)
             clear ho hb)
          | (at_builtin
             refine wpList_app _ rfl _ _ 33 rfl 5 i U w.heap.size (.slice A' m c') m (bc (packL (X.take k))) rfl HE4.out A4 q c4 (enb x) rfl HQ.out HO4.out (by have := HM255.out; have := HQ48.out; omega) (by have := HB.out.size; have := HB4.out.size; omega) ?_
             intro v1 w5 ho1 hg1 hat1
             have HO2 := Lib.hid ho1
             obtain ⟨A1, c1', rfl⟩ := own_sl ho1
             have HB5 := Lib.hid ((below_nxt HB4.out HB.out).grown hg1 (by have := HB.out.size; have := HB4.out.size; omega) (fun k hk => (HE4.out.lt k hk).1))
             clear ho1 hg1 hat1))
      go_roundw
      case rel => exact ⟨k + 1, A1, m + q, c1', by go_num, by go_num, rfl, Lib.hid HK.out, HMQ, Lib.hid (by rw [packL_snoc HX.out, bc_app]; exact HO2.out), HB5⟩
      case measure => have := HK.out; have := HKN.out; simp [intOf]; omega
    · have hke : k = K := by have := HKL.out; omega
      obtain rfl := hke
      obtain ⟨E, hE⟩ : ∃ E, packL (X.take k) = E := ⟨_, rfl⟩
      rw [hE] at HM HO HLF0 HPL
      have HM255 := Lib.hid (p := m ≤ 255) (by have h1 := HPL.out; rw [← HM.out] at h1; exact h1)
      have HME := HM
      have hkn : k < n := HEND.out
      have hki : (k : Int) < (n : Int) := by omega
      have hkx : k < X.length := by have := HN.out; omega
      obtain ⟨g0, o0, rfl, hc⟩ := (H.out.below HB.out).at_ hkx
      obtain ⟨x, hx⟩ : ∃ x, X[k] = x := ⟨_, rfl⟩
      rw [hx] at hc
      have HX := Lib.hid (p := X[k]? = some x) (by rw [List.getElem?_eq_getElem hkx, hx])
      have HR := Lib.hid (p := wr.rangeAt g0 (o0 + k * 5) (ecs x)) (fun i u hu => hc i u hu)
      obtain ⟨ia, ka, sa, hnice, hs200⟩ := HNI.out x (List.mem_of_getElem? HX.out)
      obtain ⟨q, hq⟩ : ∃ q, 16 + sa = q := ⟨_, rfl⟩
      have HPK := Lib.hid (fun w => packed_any x ia ka sa hnice w)
      rw [hq] at HPK
      have hql : q = (enb x).length := by rw [enb_len, hnice.nm]; exact hq.symm
      have hout := HOUT.out x HX.out
      rw [hE, ← HM.out, ← hql] at hout
      have HQ := Lib.hid hql
      have hq48 : q ≤ 1000 := by omega
      have hm255 := HM255.out
      obtain ⟨t1, ht1⟩ : ∃ t, 1 + m = t := ⟨_, rfl⟩
      obtain ⟨t2, ht2⟩ : ∃ t, t1 + q = t := ⟨_, rfl⟩
      have a1 : IntKind.i64.wrap (1 + (m : Int)) = (t1 : Int) := by rw [IntKind.wrap_i64]; omega
      have a2 : IntKind.i64.wrap ((t1 : Int) + (q : Int)) = (t2 : Int) := by rw [IntKind.wrap_i64]; omega
      have a3 : (256 : Int) < (t2 : Int) := by omega
      have HLF := HLF0
      clear hc hx hkx hk hkn hnice hs200 hq hql hout ht1 ht2 hE hm255 hq48
      go_upto_region 11 with (first
          | (refine wpList_load_mid rfl 42 (.tmp 14) rfl g0 (o0 + k * 5) rfl (ecs x) _ HR.out Tryd.underlying42 rfl (info_ent x) ?_)
          | (refine step_alloc rfl 7 rfl 42 rfl (ecs ent0) zero_ent ?_; intro g7 w2 hr2 hg2 hb2 hs2
             have HR2 := Lib.hid hr2
             have HB2 := Lib.hid hb2
             have HG2 := hg2
             clear hr2 hg2 hb2 hs2)
          | (refine step_store rfl 42 _ _ rfl g7 rfl 42 (ecs ent0) (ecs x) rfl HR2.out rfl (info_ent x) (ecs_one x) ?_; intro w3 hr3 hg3 hs3
             have HR3 := Lib.hid hr3
             have HB3 := Lib.hid (HB2.out.grown hg3 HB2.out.size (fun q hq => by injection hq with hq; subst hq; exact Nat.le_of_eq HG2.out.symm))
             clear hr3 hg3 hs3)
          | (refine step_load rfl 16 rfl 42 (.tmp 7) rfl g7 rfl (ecs x) _ HR3.out.all Tryd.underlying42 rfl (info_ent x) ?_)
          | (go_at_call 47; refine (HPK.out _).mono ?_; rintro e w4 ⟨A4, c4, rfl, ho, hb⟩
             have HB4 := Lib.hid (below_nxt hb HB3.out)
             have HO4 := Lib.hid (Hol.own ho)
             have HE4 := Lib.hid (own_kept HO.out HB4.out)
             clear ho hb))
      have HBW := Lib.hid (below_nxt HB4.out HB.out)
      have HOL := Lib.hid (Hol.own HE4.out)
      have HFAR := Lib.hid (p := ∀ (g off : Nat), A' = some ⟨g, off, none⟩ → g < w4.heap.size) (fun g off hA => by subst hA; exact (HE4.out.lt _ rfl).2)
      clear HO4 HE4 HO HR2 HR3 HB2 HB3 HB4 a1 a2 a3 HR HX HPK
      go_wp2_with (first
        | (refine step_make rfl _ _ 33 5 i U rfl 256 rfl rfl (by omega) ?_; intro g9 w5 hr5 hg5 hb5 hs5
           have R5 := Lib.hid hr5
           have G5 := Lib.hid (p := w.heap.size ≤ g9) (by have h1 := hg5.out; have h2 := HBW.out.size; omega)
           have BW5 := Lib.hid hb5
           have HG9 := hg5
           have B5 := Lib.hid (below_nxt hb5 HBW.out)
           clear hr5 hg5 hb5 hs5)
        | (go_at_call 48; refine (HNUM.out _).mono ?_; rintro e w6 ⟨A6, c6, rfl, ho, hb⟩
           have O6 := Lib.hid (Hol.own ho)
           have R6 := Lib.hid (R5.out.kept hb)
           have BW6 := Lib.hid (below_nxt hb BW5.out)
           have B6 := Lib.hid (below_nxt hb B5.out)
           clear ho hb HNUM)
        | (refine wp_copy rfl (.tmp 32) (.tmp 35) 33 33 rfl 5 U.ht info_u8 g9 0 256 256 256 5 (fun _ => 0) rfl R6.out A6 1 c6 [UInt8.ofNat k] rfl rfl O6.out (by decide) ?_; intro w7 k7 hr7 hu7
           have R7 := Lib.hid hr7
           have U7 := hu7
           have B7 := Lib.hid (B6.out.grown hu7.out.by_ B6.out.size (fun q hq => by injection hq with hq; subst hq; exact G5.out))
           clear hr7 hu7)
        | (have HL7 := Lib.hid ((HOL.out.below BW6.out).grown U7.out.by_ (fun g off hA hq => by injection hq with hq; have h1 := HFAR.out g off hA; have h2 := HG9.out; omega))
           refine wp_copy rfl (.tmp 38) (.tmp 39) 33 33 rfl 5 U.ht info_u8 g9 1 256 255 255 5 _ rfl R7.out A' m c' E rfl HME.out HL7.out (by have := HM255.out; have : Nat.min m 255 ≤ 255 := Nat.min_le_right _ _; omega) ?_; intro w8 k8 hr8 hu8
           have R8 := Lib.hid hr8
           have B8 := Lib.hid (B7.out.grown hu8.out.by_ B7.out.size (fun q hq => by injection hq with hq; subst hq; exact G5.out))
           clear hr8 hu8))
      go_ret2
      refine ⟨some ⟨g9, 0, none⟩, 256, rfl, ?_, B8.out⟩
      have h1 := own8_row R8.out G5.out (by decide)
      rw [List.take_of_length_le (by rw [← HME.out]; exact HM255.out), show ([UInt8.ofNat k] : List UInt8).take 256 = [UInt8.ofNat k] from rfl, leaf_lst _ _ (by rw [← HME.out]; exact HM255.out), HLF.out] at h1
      exact h1
theorem leaf_any (A : Option Addr) (n c : Nat) (X : List Ent) (hmax : n ≤ 1000000) (w : World) (h : Lies ecs 5 w A X) (hn : X.length = n) (hN : NiceL X) : Calls Tryd.prog 26 #[.slice A n c] w (LeafP w X) := by
  have h1 := fitL_le X 255
  by_cases he : fitL 255 X = n
  · exact leaf_all A n c X hmax w h hn hN he
  · exact leaf_some A n c X hmax w h hn hN (by omega)
end Go.Proofs.YtijffkklhgnknaaDoor
