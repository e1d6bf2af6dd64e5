/- Package dir: a leaf. Conditions: no more than a million entries, whose numbers have their room. -/
import Derived.Test.YtijffkklhgnknaaGreatDoorAz
import Derived.Test.YtijffkklhgnknaaGreatDoorMgRd
import Derived.Test.YtijffkklhgnknaaGreatDoorMgQn
import Derived.Test.YtijffkklhgnknaaGreatDoorMgNames
set_option maxHeartbeats 20000000
set_option linter.unusedVariables false
set_option maxRecDepth 20000
namespace Go.Proofs.YtijffkklhgnknaaGreatDoor
open Go.RowKit
theorem info_u8:(Tryz.prog.info? 5).map (·.size)=some 1:=by kernel_rfl
def NiceL (X:List Ent):Prop:=∀ e ∈ X,∃ i k s,Nice e i k s∧s≤200
def LeafP (w:World) (X:List Ent) (e:Ending) (w':World):Prop:=
  ∃ A' c',e=.returned (.tuple #[.slice A' 256 c',.int .i64 (fitL 255 X:Nat)])∧w'.ownsRow w.heap.size 5 1 (.slice A' 256 c') 256 (bc (leafB X))∧Below w.heap.size w w'
theorem leaf_all (A:Option Addr) (n c:Nat) (X:List Ent) (hmax:n≤1000000) (w:World) (h:Lies ecs 5 w A X) (hn:X.length=n) (hN:NiceL X) (hend:fitL 255 X=n):Calls Tryz.prog 61 #[.slice A n c] w (LeafP w X):=by
  obtain ⟨i,U⟩:=u8_tab;have H:=Za h;have HN:=Za (And.intro hmax hn);have HNI:=Za hN;obtain ⟨K,hK⟩:∃ K,fitL 255 X=K:=⟨_,rfl⟩;have HKN:=Za (p:=K≤n) (by rw [← hK, ← hn];exact fitL_le X 255);have HIN:=Za (p:=∀ (k:Nat) (x:Ent),X[k]?=some x→k<K→(packL (X.take k)).length+(enb x).length≤255) (fun k x hx hk=>fitL_in X 255 k x hx (by omega));have HOUT:=Za (p:=∀ (x:Ent),X[K]?=some x→255<(packL (X.take K)).length+(enb x).length) (fun x hx=>by have:=fitL_out X 255 x (by rw [hK];exact hx);rw [hK] at this;exact this);have HPL:=Za (p:=(packL (X.take K)).length≤255) (by rw [← hK];exact fitL_pack X 255);have HLF0:=Za (p:=UInt8.ofNat K::(packL (X.take K)++List.replicate (255 - (packL (X.take K)).length) 0)=leafB X) (by rw [← hK];rfl);rw [hK] at hend;unfold LeafP;rw [hK];have HEND:=Za hend
  have HK255:=Za (p:=K<256) (by
    have h1:=HPL.out
    have h2:∀ L:List Ent,L.length≤(packL L).length:=fun L=>by
      induction L with
      | nil=>exact Zj _
      | cons y L ih=>simp only [packL,List.flatMap_cons,Zf,List.length_cons] at ih ⊢;have:=enb_len y;omega
    have h3:=h2 (X.take K);rw [Zu] at h3;have:=HKN.out;omega)
  have HNUM:=Za (p:=∀ w,Calls Tryz.prog 98 #[.slice none 0 0,.int .i64 1,.int .u64 (K:Int)] w (ByP w 1 [UInt8.ofNat K])) (fun w=>by
    have h:=dnumber_any none 0 0 [] 1 K 1 rfl rfl w (.inl rfl) (.inl rfl) (by have:=HK255.out;omega) (by decide);rwa [show ([]:List UInt8)++leb K 1=[UInt8.ofNat K] by simp [leb]] at h)
  have uK:=u64_nat K (by have:=HK255.out;omega);clear h hmax hn hN hK hend;go_enter Tryz.func61,Tryz.ntmps61;go_wp2;go_loopw [4,5,12] (fun x y z wr=>∃ (k:Nat) (A':Option Addr) (m c':Nat),z=.int .i64 (k:Int)∧y=.int .i64 (k:Int)∧x=.slice A' m c'∧Hid (k≤K)∧Hid (m=(packL (X.take k)).length)∧Hid (wr.ownsRow w.heap.size 5 1 (.slice A' m c') m (bc (packL (X.take k))))∧Hid (Below w.heap.size w wr)) (fun _ _ z _=>n - (intOf z).toNat)
  case atStart=>exact ⟨0,none,0,0,rfl,rfl,rfl,Za (Nat.zero_le _),Za rfl,Za (Ye _ _ _ _),Za (Below.refl _ _)⟩
  case round =>
    obtain ⟨k,A',m,c',rfl,rfl,rfl,HKL,HM,HO,HB⟩:=hrel
    rename World=>wr;by_cases hk:k<K
    · have hkn:k<n:=by have:=HKN.out;omega
      have hki:(k:Int)<(n:Int):=by omega
      have hkw:IntKind.i64.wrap ((k:Int)+1)=(k:Int)+1:=by rw [Zg];have:=HN.out;omega
      have hkx:k<X.length:=by have:=HN.out;omega
      obtain ⟨g0,o0,rfl,hc⟩:=(H.out.below HB.out).at_ hkx
      obtain ⟨x,hx⟩:∃ x,X[k]=x:=⟨_,rfl⟩;rw [hx] at hc;have HX:=Za (p:=X[k]?=some x) (by rw [Zh hkx,hx]);have HR:=Za (p:=wr.rangeAt g0 (o0+k*5) (ecs x)) (fun i u hu=>hc i u hu);obtain ⟨ia,ka,sa,hnice,hs200⟩:=HNI.out x (Zx HX.out);obtain ⟨q,hq⟩:∃ q,16+sa=q:=⟨_,rfl⟩;have HPK:=Za (fun w=>packed_any x ia ka sa hnice w);rw [hq] at HPK;have hql:q=(enb x).length:=by rw [enb_len,hnice.nm];exact hq.symm
      have hin:=HIN.out k x HX.out hk;rw [← HM.out, ← hql] at hin;have HQ:=Za hql;have HQ48:=Za (p:=q≤1000) (by omega);have HM255:=Za (p:=m≤255) (by omega);obtain ⟨t1,ht1⟩:∃ t,1+m=t:=⟨_,rfl⟩;obtain ⟨t2,ht2⟩:∃ t,t1+q=t:=⟨_,rfl⟩;have a1:IntKind.i64.wrap (1+(m:Int))=(t1:Int):=by rw [Zg];omega
      have a2:IntKind.i64.wrap ((t1:Int)+(q:Int))=(t2:Int):=by rw [Zg];omega
      have a3:¬ (256:Int)<(t2:Int):=by omega
      have HK:=Za hk;have HMQ:=Za (p:=m+q=(packL (X.take (k+1))).length) (by rw [packL_snoc HX.out,Zf, ← HM.out, ← HQ.out]);clear hc hx hkx hk hkn hnice hs200 hq hql hin ht1 ht2
      go_wp2_with (first
          | (refine wpList_load_mid rfl 61 (.tmp 14) rfl g0 (o0+k*5) rfl (ecs x) _ HR.out Yi rfl (info_ent x) ?_)
          | (refine step_alloc rfl 7 rfl 61 rfl (ecs ent0) zero_ent ?_;intro g7 w2 hr2 hg2 hb2 hs2;have HR2:=Za hr2
             have HB2:=Za hb2;have HG2:=hg2;clear hr2 hg2 hb2 hs2)
          | (refine step_store rfl 61 _ _ rfl g7 rfl 61 (ecs ent0) (ecs x) rfl HR2.out rfl (info_ent x) (ecs_one x) ?_;intro w3 hr3 hg3 hs3;have HR3:=Za hr3
             have HB3:=Za (HB2.out.grown hg3 HB2.out.size (fun q hq=>by injection hq with hq;subst hq;exact Nat.le_of_eq HG2.out.symm));clear hr3 hg3 hs3)
          | (refine step_load rfl 16 rfl 61 (.tmp 7) rfl g7 rfl (ecs x) _ HR3.out.all Yi rfl (info_ent x) ?_)
          | (go_at_call 97;refine (HPK.out _).mono ?_;rintro e w4 ⟨A4,c4,rfl,ho,hb⟩;have HB4:=Za (below_nxt hb HB3.out)
             have HO4:=Za (Hol.own ho);have HE4:=Za (own_kept HO.out HB4.out);clear ho hb)
          | (at_builtin
             refine wpList_app _ rfl _ _ 23 rfl 5 i U w.heap.size (.slice A' m c') m (bc (packL (X.take k))) rfl HE4.out A4 q c4 (enb x) rfl HQ.out HO4.out (by have:=HM255.out;have:=HQ48.out;omega) (by have:=HB.out.size;have:=HB4.out.size;omega) ?_;intro v1 w5 ho1 hg1 hat1;have HO2:=Za ho1;obtain ⟨A1,c1',rfl⟩:=own_sl ho1;have HB5:=Za ((below_nxt HB4.out HB.out).grown hg1 (by have:=HB.out.size;have:=HB4.out.size;omega) (fun k hk=>(HE4.out.lt k hk).1));clear ho1 hg1 hat1))
      go_roundw
      case rel=>exact ⟨k+1,A1,m+q,c1',by go_num,by go_num,rfl,Za HK.out,HMQ,Za (by rw [packL_snoc HX.out,bc_app];exact HO2.out),HB5⟩
      case measure=>have:=HK.out;have:=HKN.out;simp [intOf];omega
    · have hke:k=K:=by have:=HKL.out;omega
      obtain rfl:=hke;obtain ⟨E,hE⟩:∃ E,packL (X.take k)=E:=⟨_,rfl⟩;rw [hE] at HM HO HLF0 HPL;have HM255:=Za (p:=m≤255) (by have h1:=HPL.out;rw [← HM.out] at h1;exact h1);have HME:=HM;have hki:¬ (k:Int)<(n:Int):=by have:=HEND.out;omega
      have HBW:=HB;have HLF:=HLF0;have HOL:=Za (Hol.own HO.out);have HFAR:=Za (p:=∀ (g off:Nat),A'=some ⟨g,off,none⟩→g<wr.heap.size) (fun g off hA=>by subst hA;exact (HO.out.lt _ rfl).2);clear hE hk
      go_wp2_with (first
        | (refine step_make rfl _ _ 23 5 i U rfl 256 rfl rfl (by omega) ?_;intro g9 w5 hr5 hg5 hb5 hs5;have R5:=Za hr5
           have G5:=Za (p:=w.heap.size≤g9) (by have h1:=hg5.out;have h2:=HBW.out.size;omega);have BW5:=Za hb5;have HG9:=hg5;have B5:=Za (below_nxt hb5 HBW.out);clear hr5 hg5 hb5 hs5)
        | (go_at_call 98;refine (HNUM.out _).mono ?_;rintro e w6 ⟨A6,c6,rfl,ho,hb⟩;have O6:=Za (Hol.own ho)
           have R6:=Za (R5.out.kept hb);have BW6:=Za (below_nxt hb BW5.out);have B6:=Za (below_nxt hb B5.out);clear ho hb HNUM)
        | (refine wp_copy rfl (.tmp 32) (.tmp 35) 23 23 rfl 5 U.ht info_u8 g9 0 256 256 256 5 (fun _=>0) rfl R6.out A6 1 c6 [UInt8.ofNat k] rfl rfl O6.out (by decide) ?_;intro w7 k7 hr7 hu7;have R7:=Za hr7
           have U7:=hu7;have B7:=Za (B6.out.grown hu7.out.by_ B6.out.size (fun q hq=>by injection hq with hq;subst hq;exact G5.out));clear hr7 hu7)
        | (have HL7:=Za ((HOL.out.below BW6.out).grown U7.out.by_ (fun g off hA hq=>by injection hq with hq;have h1:=HFAR.out g off hA;have h2:=HG9.out;omega));refine wp_copy rfl (.tmp 38) (.tmp 39) 23 23 rfl 5 U.ht info_u8 g9 1 256 255 255 5 _ rfl R7.out A' m c' E rfl HME.out HL7.out (by have:=HM255.out;have:Nat.min m 255≤255:=Nat.min_le_right _ _;omega) ?_;intro w8 k8 hr8 hu8
           have R8:=Za hr8;have B8:=Za (B7.out.grown hu8.out.by_ B7.out.size (fun q hq=>by injection hq with hq;subst hq;exact G5.out));clear hr8 hu8))
      go_ret2;refine ⟨some ⟨g9,0,none⟩,256,rfl,?_,B8.out⟩;have h1:=own8_row R8.out G5.out (by decide);rw [Zz (by rw [← HME.out];exact HM255.out),show ([UInt8.ofNat k]:List UInt8).take 256=[UInt8.ofNat k] from rfl,leaf_lst _ _ (by rw [← HME.out];exact HM255.out),HLF.out] at h1;exact h1
theorem leaf_some (A:Option Addr) (n c:Nat) (X:List Ent) (hmax:n≤1000000) (w:World) (h:Lies ecs 5 w A X) (hn:X.length=n) (hN:NiceL X) (hend:fitL 255 X<n):Calls Tryz.prog 61 #[.slice A n c] w (LeafP w X):=by
  obtain ⟨i,U⟩:=u8_tab;have H:=Za h;have HN:=Za (And.intro hmax hn);have HNI:=Za hN;obtain ⟨K,hK⟩:∃ K,fitL 255 X=K:=⟨_,rfl⟩;have HKN:=Za (p:=K≤n) (by rw [← hK, ← hn];exact fitL_le X 255);have HIN:=Za (p:=∀ (k:Nat) (x:Ent),X[k]?=some x→k<K→(packL (X.take k)).length+(enb x).length≤255) (fun k x hx hk=>fitL_in X 255 k x hx (by omega));have HOUT:=Za (p:=∀ (x:Ent),X[K]?=some x→255<(packL (X.take K)).length+(enb x).length) (fun x hx=>by have:=fitL_out X 255 x (by rw [hK];exact hx);rw [hK] at this;exact this);have HPL:=Za (p:=(packL (X.take K)).length≤255) (by rw [← hK];exact fitL_pack X 255);have HLF0:=Za (p:=UInt8.ofNat K::(packL (X.take K)++List.replicate (255 - (packL (X.take K)).length) 0)=leafB X) (by rw [← hK];rfl);rw [hK] at hend;unfold LeafP;rw [hK];have HEND:=Za hend
  have HK255:=Za (p:=K<256) (by
    have h1:=HPL.out
    have h2:∀ L:List Ent,L.length≤(packL L).length:=fun L=>by
      induction L with
      | nil=>exact Zj _
      | cons y L ih=>simp only [packL,List.flatMap_cons,Zf,List.length_cons] at ih ⊢;have:=enb_len y;omega
    have h3:=h2 (X.take K);rw [Zu] at h3;have:=HKN.out;omega)
  have HNUM:=Za (p:=∀ w,Calls Tryz.prog 98 #[.slice none 0 0,.int .i64 1,.int .u64 (K:Int)] w (ByP w 1 [UInt8.ofNat K])) (fun w=>by
    have h:=dnumber_any none 0 0 [] 1 K 1 rfl rfl w (.inl rfl) (.inl rfl) (by have:=HK255.out;omega) (by decide);rwa [show ([]:List UInt8)++leb K 1=[UInt8.ofNat K] by simp [leb]] at h)
  have uK:=u64_nat K (by have:=HK255.out;omega);clear h hmax hn hN hK hend;go_enter Tryz.func61,Tryz.ntmps61;go_wp2;go_loopw [4,5,12] (fun x y z wr=>∃ (k:Nat) (A':Option Addr) (m c':Nat),z=.int .i64 (k:Int)∧y=.int .i64 (k:Int)∧x=.slice A' m c'∧Hid (k≤K)∧Hid (m=(packL (X.take k)).length)∧Hid (wr.ownsRow w.heap.size 5 1 (.slice A' m c') m (bc (packL (X.take k))))∧Hid (Below w.heap.size w wr)) (fun _ _ z _=>n - (intOf z).toNat)
  case atStart=>exact ⟨0,none,0,0,rfl,rfl,rfl,Za (Nat.zero_le _),Za rfl,Za (Ye _ _ _ _),Za (Below.refl _ _)⟩
  case round =>
    obtain ⟨k,A',m,c',rfl,rfl,rfl,HKL,HM,HO,HB⟩:=hrel
    rename World=>wr;by_cases hk:k<K
    · have hkn:k<n:=by have:=HKN.out;omega
      have hki:(k:Int)<(n:Int):=by omega
      have hkw:IntKind.i64.wrap ((k:Int)+1)=(k:Int)+1:=by rw [Zg];have:=HN.out;omega
      have hkx:k<X.length:=by have:=HN.out;omega
      obtain ⟨g0,o0,rfl,hc⟩:=(H.out.below HB.out).at_ hkx
      obtain ⟨x,hx⟩:∃ x,X[k]=x:=⟨_,rfl⟩;rw [hx] at hc;have HX:=Za (p:=X[k]?=some x) (by rw [Zh hkx,hx]);have HR:=Za (p:=wr.rangeAt g0 (o0+k*5) (ecs x)) (fun i u hu=>hc i u hu);obtain ⟨ia,ka,sa,hnice,hs200⟩:=HNI.out x (Zx HX.out);obtain ⟨q,hq⟩:∃ q,16+sa=q:=⟨_,rfl⟩;have HPK:=Za (fun w=>packed_any x ia ka sa hnice w);rw [hq] at HPK;have hql:q=(enb x).length:=by rw [enb_len,hnice.nm];exact hq.symm
      have hin:=HIN.out k x HX.out hk;rw [← HM.out, ← hql] at hin;have HQ:=Za hql;have HQ48:=Za (p:=q≤1000) (by omega);have HM255:=Za (p:=m≤255) (by omega);obtain ⟨t1,ht1⟩:∃ t,1+m=t:=⟨_,rfl⟩;obtain ⟨t2,ht2⟩:∃ t,t1+q=t:=⟨_,rfl⟩;have a1:IntKind.i64.wrap (1+(m:Int))=(t1:Int):=by rw [Zg];omega
      have a2:IntKind.i64.wrap ((t1:Int)+(q:Int))=(t2:Int):=by rw [Zg];omega
      have a3:¬ (256:Int)<(t2:Int):=by omega
      have HK:=Za hk;have HMQ:=Za (p:=m+q=(packL (X.take (k+1))).length) (by rw [packL_snoc HX.out,Zf, ← HM.out, ← HQ.out]);clear hc hx hkx hk hkn hnice hs200 hq hql hin ht1 ht2
      go_wp2_with (first
          | (refine wpList_load_mid rfl 61 (.tmp 14) rfl g0 (o0+k*5) rfl (ecs x) _ HR.out Yi rfl (info_ent x) ?_)
          | (refine step_alloc rfl 7 rfl 61 rfl (ecs ent0) zero_ent ?_;intro g7 w2 hr2 hg2 hb2 hs2;have HR2:=Za hr2
             have HB2:=Za hb2;have HG2:=hg2;clear hr2 hg2 hb2 hs2)
          | (refine step_store rfl 61 _ _ rfl g7 rfl 61 (ecs ent0) (ecs x) rfl HR2.out rfl (info_ent x) (ecs_one x) ?_;intro w3 hr3 hg3 hs3;have HR3:=Za hr3
             have HB3:=Za (HB2.out.grown hg3 HB2.out.size (fun q hq=>by injection hq with hq;subst hq;exact Nat.le_of_eq HG2.out.symm));clear hr3 hg3 hs3)
          | (refine step_load rfl 16 rfl 61 (.tmp 7) rfl g7 rfl (ecs x) _ HR3.out.all Yi rfl (info_ent x) ?_)
          | (go_at_call 97;refine (HPK.out _).mono ?_;rintro e w4 ⟨A4,c4,rfl,ho,hb⟩;have HB4:=Za (below_nxt hb HB3.out)
             have HO4:=Za (Hol.own ho);have HE4:=Za (own_kept HO.out HB4.out);clear ho hb)
          | (at_builtin
             refine wpList_app _ rfl _ _ 23 rfl 5 i U w.heap.size (.slice A' m c') m (bc (packL (X.take k))) rfl HE4.out A4 q c4 (enb x) rfl HQ.out HO4.out (by have:=HM255.out;have:=HQ48.out;omega) (by have:=HB.out.size;have:=HB4.out.size;omega) ?_;intro v1 w5 ho1 hg1 hat1;have HO2:=Za ho1;obtain ⟨A1,c1',rfl⟩:=own_sl ho1;have HB5:=Za ((below_nxt HB4.out HB.out).grown hg1 (by have:=HB.out.size;have:=HB4.out.size;omega) (fun k hk=>(HE4.out.lt k hk).1));clear ho1 hg1 hat1))
      go_roundw
      case rel=>exact ⟨k+1,A1,m+q,c1',by go_num,by go_num,rfl,Za HK.out,HMQ,Za (by rw [packL_snoc HX.out,bc_app];exact HO2.out),HB5⟩
      case measure=>have:=HK.out;have:=HKN.out;simp [intOf];omega
    · have hke:k=K:=by have:=HKL.out;omega
      obtain rfl:=hke;obtain ⟨E,hE⟩:∃ E,packL (X.take k)=E:=⟨_,rfl⟩;rw [hE] at HM HO HLF0 HPL;have HM255:=Za (p:=m≤255) (by have h1:=HPL.out;rw [← HM.out] at h1;exact h1);have HME:=HM;have hkn:k<n:=HEND.out;have hki:(k:Int)<(n:Int):=by omega
      have hkx:k<X.length:=by have:=HN.out;omega
      obtain ⟨g0,o0,rfl,hc⟩:=(H.out.below HB.out).at_ hkx
      obtain ⟨x,hx⟩:∃ x,X[k]=x:=⟨_,rfl⟩;rw [hx] at hc;have HX:=Za (p:=X[k]?=some x) (by rw [Zh hkx,hx]);have HR:=Za (p:=wr.rangeAt g0 (o0+k*5) (ecs x)) (fun i u hu=>hc i u hu);obtain ⟨ia,ka,sa,hnice,hs200⟩:=HNI.out x (Zx HX.out);obtain ⟨q,hq⟩:∃ q,16+sa=q:=⟨_,rfl⟩;have HPK:=Za (fun w=>packed_any x ia ka sa hnice w);rw [hq] at HPK;have hql:q=(enb x).length:=by rw [enb_len,hnice.nm];exact hq.symm
      have hout:=HOUT.out x HX.out;rw [hE, ← HM.out, ← hql] at hout;have HQ:=Za hql;have hq48:q≤1000:=by omega
      have hm255:=HM255.out;obtain ⟨t1,ht1⟩:∃ t,1+m=t:=⟨_,rfl⟩;obtain ⟨t2,ht2⟩:∃ t,t1+q=t:=⟨_,rfl⟩;have a1:IntKind.i64.wrap (1+(m:Int))=(t1:Int):=by rw [Zg];omega
      have a2:IntKind.i64.wrap ((t1:Int)+(q:Int))=(t2:Int):=by rw [Zg];omega
      have a3:(256:Int)<(t2:Int):=by omega
      have HLF:=HLF0;clear hc hx hkx hk hkn hnice hs200 hq hql hout ht1 ht2 hE hm255 hq48
      go_upto_region 11 with (first
          | (refine wpList_load_mid rfl 61 (.tmp 14) rfl g0 (o0+k*5) rfl (ecs x) _ HR.out Yi rfl (info_ent x) ?_)
          | (refine step_alloc rfl 7 rfl 61 rfl (ecs ent0) zero_ent ?_;intro g7 w2 hr2 hg2 hb2 hs2;have HR2:=Za hr2
             have HB2:=Za hb2;have HG2:=hg2;clear hr2 hg2 hb2 hs2)
          | (refine step_store rfl 61 _ _ rfl g7 rfl 61 (ecs ent0) (ecs x) rfl HR2.out rfl (info_ent x) (ecs_one x) ?_;intro w3 hr3 hg3 hs3;have HR3:=Za hr3
             have HB3:=Za (HB2.out.grown hg3 HB2.out.size (fun q hq=>by injection hq with hq;subst hq;exact Nat.le_of_eq HG2.out.symm));clear hr3 hg3 hs3)
          | (refine step_load rfl 16 rfl 61 (.tmp 7) rfl g7 rfl (ecs x) _ HR3.out.all Yi rfl (info_ent x) ?_)
          | (go_at_call 97;refine (HPK.out _).mono ?_;rintro e w4 ⟨A4,c4,rfl,ho,hb⟩;have HB4:=Za (below_nxt hb HB3.out)
             have HO4:=Za (Hol.own ho);have HE4:=Za (own_kept HO.out HB4.out);clear ho hb))
      have HBW:=Za (below_nxt HB4.out HB.out);have HOL:=Za (Hol.own HE4.out);have HFAR:=Za (p:=∀ (g off:Nat),A'=some ⟨g,off,none⟩→g<w4.heap.size) (fun g off hA=>by subst hA;exact (HE4.out.lt _ rfl).2);clear HO4 HE4 HO HR2 HR3 HB2 HB3 HB4 a1 a2 a3 HR HX HPK
      go_wp2_with (first
        | (refine step_make rfl _ _ 23 5 i U rfl 256 rfl rfl (by omega) ?_;intro g9 w5 hr5 hg5 hb5 hs5;have R5:=Za hr5
           have G5:=Za (p:=w.heap.size≤g9) (by have h1:=hg5.out;have h2:=HBW.out.size;omega);have BW5:=Za hb5;have HG9:=hg5;have B5:=Za (below_nxt hb5 HBW.out);clear hr5 hg5 hb5 hs5)
        | (go_at_call 98;refine (HNUM.out _).mono ?_;rintro e w6 ⟨A6,c6,rfl,ho,hb⟩;have O6:=Za (Hol.own ho)
           have R6:=Za (R5.out.kept hb);have BW6:=Za (below_nxt hb BW5.out);have B6:=Za (below_nxt hb B5.out);clear ho hb HNUM)
        | (refine wp_copy rfl (.tmp 32) (.tmp 35) 23 23 rfl 5 U.ht info_u8 g9 0 256 256 256 5 (fun _=>0) rfl R6.out A6 1 c6 [UInt8.ofNat k] rfl rfl O6.out (by decide) ?_;intro w7 k7 hr7 hu7;have R7:=Za hr7
           have U7:=hu7;have B7:=Za (B6.out.grown hu7.out.by_ B6.out.size (fun q hq=>by injection hq with hq;subst hq;exact G5.out));clear hr7 hu7)
        | (have HL7:=Za ((HOL.out.below BW6.out).grown U7.out.by_ (fun g off hA hq=>by injection hq with hq;have h1:=HFAR.out g off hA;have h2:=HG9.out;omega));refine wp_copy rfl (.tmp 38) (.tmp 39) 23 23 rfl 5 U.ht info_u8 g9 1 256 255 255 5 _ rfl R7.out A' m c' E rfl HME.out HL7.out (by have:=HM255.out;have:Nat.min m 255≤255:=Nat.min_le_right _ _;omega) ?_;intro w8 k8 hr8 hu8
           have R8:=Za hr8;have B8:=Za (B7.out.grown hu8.out.by_ B7.out.size (fun q hq=>by injection hq with hq;subst hq;exact G5.out));clear hr8 hu8))
      go_ret2;refine ⟨some ⟨g9,0,none⟩,256,rfl,?_,B8.out⟩;have h1:=own8_row R8.out G5.out (by decide);rw [Zz (by rw [← HME.out];exact HM255.out),show ([UInt8.ofNat k]:List UInt8).take 256=[UInt8.ofNat k] from rfl,leaf_lst _ _ (by rw [← HME.out];exact HM255.out),HLF.out] at h1;exact h1
theorem leaf_any (A:Option Addr) (n c:Nat) (X:List Ent) (hmax:n≤1000000) (w:World) (h:Lies ecs 5 w A X) (hn:X.length=n) (hN:NiceL X):Calls Tryz.prog 61 #[.slice A n c] w (LeafP w X):=by
  have h1:=fitL_le X 255;by_cases he:fitL 255 X=n
  · exact leaf_all A n c X hmax w h hn hN he
  · exact leaf_some A n c X hmax w h hn hN (by omega)
/- Entries of other names;the entry of a name. Conditions:the row is no longer than a million. -/
section
variable {P:Program}
end
/- What the laws take for small. Conditions:lengths within the reach. -/
theorem lies_nm {w:World} {A:Option Addr} {X:List Ent} (h:Lies ecs 5 w A X) {k:Nat} {x:Ent} (hx:X[k]?=some x):∃ g o,A=some ⟨g,o,none⟩∧w.cell? ⟨g,o+k*5,none⟩=some (.string x.nm):=by
  obtain ⟨hk,hy⟩:=Zn.1 hx;obtain ⟨g,o,hA,hc⟩:=h.at_ hk;rw [hy] at hc;exact ⟨g,o,hA,hc 0 _ rfl⟩
def SmallP (n:Nat) (X:List Ent) (e:Ending):Prop:=∃ z:Bool,e=.returned (.bool z)∧(z=true→n≤201∧∀ e ∈ X,e.nm.size≤16384)
theorem small_any (A:Option Addr) (n c:Nat) (X:List Ent) (hmax:n≤9223372036854775807) (w:World) (h:Lies ecs 5 w A X) (hn:X.length=n) (hnm:∀ e ∈ X,e.nm.size≤140737488355328):
    Calls Tryz.prog 13 #[.slice A n c] w fun e w'=>SmallP n X e∧Below w.heap.size w w':=by
  have H:=Za h;have HN:=Za (And.intro hmax hn);have HNM:=Za hnm;clear h hmax hn hnm;go_enter Tryz.func13,Tryz.ntmps13;go_wp2;go_loopw [3,4] (fun x y wr=>∃ (k s:Nat),y=.int .i64 (k:Int)∧x=.int .i64 (s:Int)∧Hid (k≤n∧k≤201∧s≤16384∧∀ e ∈ X.take k,e.nm.size≤16384)∧Hid (Below w.heap.size w wr)) (fun _ y _=>n - (intOf y).toNat)
  case atStart=>exact ⟨0,0,rfl,rfl,Za ⟨Nat.zero_le _,Nat.zero_le _,Nat.zero_le _,fun e he=>by simp at he⟩,Za (Below.refl _ _)⟩
  case round =>
    obtain ⟨k,s,rfl,rfl,HK,HB⟩:=hrel
    rename World=>wr;by_cases hk:k<n
    · have hki:(k:Int)<(n:Int):=by omega
      have hkw:IntKind.i64.wrap ((k:Int)+1)=(k:Int)+1:=by rw [Zg];have:=HK.out.2.1;omega
      have hkx:k<X.length:=by have:=HN.out;omega
      obtain ⟨x,hx⟩:∃ x,X[k]?=some x:=⟨_,Zh hkx⟩;obtain ⟨g0,o0,rfl,hc⟩:=lies_nm (H.out.below HB.out) hx;have hsz:x.nm.size≤140737488355328:=HNM.out x (Zx hx);obtain ⟨t,ht⟩:∃ t:Nat,x.nm.size=t:=⟨_,rfl⟩;obtain ⟨s2,hs2⟩:∃ s2:Nat,s+t=s2:=⟨_,rfl⟩;have hsw:IntKind.i64.wrap ((s:Int)+(t:Int))=(s2:Int):=by rw [Zg];have:=HK.out;omega
      have HX:=Za hx;have HT:=Za (p:=x.nm.size=t∧s+t=s2) ⟨ht,hs2⟩;have HKK:=Za hk;clear hx hkx hk hsz hs2;by_cases hbig:16384<s2
      · have hbi:(16384:Int)<(s2:Int):=by omega
        go_wp2;go_ret;exact ⟨⟨false,rfl,fun h=>by cases h⟩,HB.out⟩
      · have hbi:¬ (16384:Int)<(s2:Int):=by omega
        have HBG:=Za hbig;clear hbig;by_cases hmany:200<k
        · have hmi:(200:Int)<(k:Int):=by omega
          go_wp2;go_ret;exact ⟨⟨false,rfl,fun h=>by cases h⟩,HB.out⟩
        · have hmi:¬ (200:Int)<(k:Int):=by omega
          have HMY:=Za hmany;clear hmany;go_wp2;go_roundw
          case rel=>
            refine ⟨k+1,s2,by go_num,rfl,Za ⟨HKK.out,by have:=HMY.out;omega,by have:=HBG.out;omega,fun e he=>?_⟩,HB⟩;rw [List.take_add_one,HX.out] at he;rcases List.mem_append.1 he with he | he
            · exact HK.out.2.2.2 e he
            · simp at he;subst he;have:=HT.out;have:=HBG.out;omega
          case measure=>have:=HKK.out;simp [intOf];omega
    · have hke:k=n:=by have:=HK.out;omega
      have hki:¬ (k:Int)<(n:Int):=by omega
      have HKE:=Za hke;clear hk hke;go_wp2;go_ret;have h1:=HK.out.2.2.2;rw [Zz (by rw [HN.out.2,HKE.out];exact Zj _)] at h1;exact ⟨⟨true,rfl,fun _=>⟨by have:=HK.out;have:=HKE.out;omega,h1⟩⟩,HB.out⟩
/- The place of a name among entries. Conditions:those named. -/
section
variable {P:Program} {w:World} {ops:Array Oper} {rest:List Oper} {o:Oper} {a:Act} {Q:Exit→Act→World→Prop}
end
/- Where a name belongs among entries. Conditions:no more than a million entries,the library's tables lie there. -/
/- The reference's entries of other names. Conditions:the row is no longer than a million. -/
/- Bytes compared;lists of bytes compared. Conditions:those named. -/
theorem string_beqD (a b:List UInt8):((⟨a.toArray⟩:ByteArray).toList==(⟨b.toArray⟩:ByteArray).toList)=decide (a=b):=by
  rw [ByteArray.toList_eq,ByteArray.toList_eq,Bool.eq_iff_iff];simp
theorem bequal_anyD (A B:Option Addr) (n m c d:Nat) (a b:List UInt8) (hn:n=a.length) (hm:m=b.length) (w:World) (hA:Hol w A a) (hB:Hol w B b):
    Calls Tryz.prog 75 #[.slice A n c,.slice B m d] w fun e w'=>e=.returned (.bool (decide (a=b)))∧w'=w:=by
  have h1:=run_to_string (P:=Tryz.prog) w 23 9 5 A c n a hn Tryz.underlying23 Tryz.underlying5 Tryz.underlying9 hA;have h2:=run_to_string (P:=Tryz.prog) w 23 9 5 B d m b hm Tryz.underlying23 Tryz.underlying5 Tryz.underlying9 hB;have hs:=string_beqD a b;generalize (⟨a.toArray⟩:ByteArray)=S at*;generalize (⟨b.toArray⟩:ByteArray)=T at*;clear hA hB hn hm;go_enter Tryz.func75,Tryz.ntmps75;go_wp2;go_ret;exact ⟨by rw [← hs];rfl,rfl⟩
theorem eq_step {P Q:List BV} {k:Nat} {x y:BV} (hx:P[k]?=some x) (hy:Q[k]?=some y) (h:(P.map (·.l)).take k=(Q.map (·.l)).take k) (he:x.l=y.l):(P.map (·.l)).take (k+1)=(Q.map (·.l)).take (k+1):=by
  rw [List.take_add_one,List.take_add_one,h,List.getElem?_map,List.getElem?_map,hx,hy];simp [he]
theorem eqfunc_any (A B:Option Addr) (n m c d:Nat) (P Q:List BV) (hmax:n≤1000000) (hn:P.length=n) (hm:Q.length=m) (w:World) (hA:Lies sc 1 w A P) (hB:Lies sc 1 w B Q) (hP:∀ b ∈ P,Hol w b.A b.l) (hQ:∀ b ∈ Q,Hol w b.A b.l):
    Calls Tryz.prog 81 #[.slice A n c,.slice B m d,.func (.func 75) #[] #[]] w fun e w'=>e=.returned (.bool (decide (P.map (·.l)=Q.map (·.l))))∧w'=w:=by
  obtain ⟨r,hr⟩:∃ r:Bool,decide (P.map (·.l)=Q.map (·.l))=r:=⟨_,rfl⟩;have HR:=Za hr;rw [hr];clear hr;have HN:=Za (And.intro hmax (And.intro hn hm));have HL:=Za (And.intro hA hB);have HH:=Za (And.intro hP hQ);clear hA hB hP hQ hmax hn hm;by_cases hnm:n=m
  · subst hnm;go_enter Tryz.func81,Tryz.ntmps81;go_wp2;go_loopw [17] (fun y wr=>∃ (k:Nat),Hid (k≤n)∧y=.int .i64 (k:Int)∧Hid ((P.map (·.l)).take k=(Q.map (·.l)).take k)∧wr=w) (fun y _=>n - (intOf y).toNat)
    case atStart=>exact ⟨0,Za (Nat.zero_le _),rfl,Za rfl,rfl⟩
    case round=>
      obtain ⟨k,HKL,rfl,HE,rfl⟩:=hrel
      rename World=>wr;by_cases hk:k<n
      · have hki:(k:Int)<(n:Int):=by omega
        have hkw:IntKind.i64.wrap ((k:Int)+1)=(k:Int)+1:=by rw [Zg];have:=HN.out;omega
        obtain ⟨x,hx⟩:∃ x,P[k]?=some x:=⟨_,Zh (by have:=HN.out;omega)⟩;obtain ⟨y,hy⟩:∃ y,Q[k]?=some y:=⟨_,Zh (by have:=HN.out;omega)⟩;obtain ⟨g0,o0,rfl,hc⟩:=HL.out.1.at_ (Zn.1 hx).1;obtain ⟨g1,o1,rfl,hc1⟩:=HL.out.2.at_ (Zn.1 hy).1;rw [(Zn.1 hx).2] at hc;rw [(Zn.1 hy).2] at hc1;have cx:wr.cell? ⟨g0,o0+k,none⟩=some (.slice x.A x.l.length x.c):=by have h9:=hc 0 _ rfl;simpa [bvv] using h9
        have cy:wr.cell? ⟨g1,o1+k,none⟩=some (.slice y.A y.l.length y.c):=by have h9:=hc1 0 _ rfl;simpa [bvv] using h9
        have HBE:=Za (bequal_anyD x.A y.A x.l.length y.l.length x.c y.c x.l y.l rfl rfl wr (HH.out.1 x (Zx hx)) (HH.out.2 y (Zx hy)));have HX:=Za (And.intro hx hy);have HK:=Za hk;clear hc hc1 hx hy hk;by_cases he:x.l=y.l
        · have HXE:=Za he;clear he;go_wp2_with (go_at_call 75;refine HBE.out.mono ?_;rintro e w4 ⟨rfl,rfl⟩;rw [decide_eq_true HXE.out]);go_roundw
          case rel=>exact ⟨k+1,Za HK.out,by go_num,Za (eq_step HX.out.1 HX.out.2 HE.out HXE.out),trivial⟩
          case measure=>have:=HK.out;simp [intOf];omega
        · have HXE:=Za he;clear he
          have hrf:r=false:=by
            rw [← HR.out];refine decide_eq_false (fun h=>HXE.out ?_);have h1:=congrArg (fun l=>l[k]?) h;simp only [List.getElem?_map,HX.out.1,HX.out.2,Option.map_some] at h1;exact Option.some.inj h1
          subst hrf;go_wp2_with (go_at_call 75;refine HBE.out.mono ?_;rintro e w4 ⟨rfl,rfl⟩;rw [decide_eq_false HXE.out]);go_ret;exact ⟨rfl,rfl⟩
      · have hki:¬ (k:Int)<(n:Int):=by omega
        have hrt:r=true:=by
          rw [← HR.out];have h1:=HE.out;rw [Zz (by rw [List.length_map];have:=HN.out;omega),Zz (by rw [List.length_map];have:=HN.out;omega)] at h1;exact decide_eq_true h1
        subst hrt;clear hk;go_wp2;go_ret;exact ⟨rfl,rfl⟩
  · have hni:¬ (n:Int)=(m:Int):=by omega
    have hrf:r=false:=by
      rw [← HR.out];refine decide_eq_false (fun h=>hnm ?_);have h1:=congrArg List.length h;rw [List.length_map,List.length_map] at h1;have:=HN.out;omega
    subst hrf;clear hnm;go_enter Tryz.func81,Tryz.ntmps81;go_wp2;go_ret;exact ⟨rfl,rfl⟩
/- Whether names rise;whether cookies are apart. Conditions:no more than a million entries,the library's tables lie there. -/
def Rises (X:List Ent):Prop:=∀ q x y,X[q]?=some x→X[q+1]?=some y→lessD x.nm.data.toList y.nm.data.toList=true
def RiseP (X:List Ent) (e:Ending):Prop:=∃ z:Bool,e=.returned (.bool z)∧(z=true↔Rises X)
theorem rise_any (A : Option Addr) (n c:Nat) (X:List Ent) (hmax:n≤1000000) (w:World) (h:Lies ecs 5 w A X) (hn:X.length=n) (hnm:∀ e ∈ X,e.nm.size≤4294967296) (hT:Tabs w):
    Calls Tryz.prog 95 #[.slice A n c] w fun e w'=>RiseP X e∧Below w.heap.size w w':=by
  have H:=Za h;have HN:=Za (And.intro hmax hn);have HNM:=Za hnm;have HT:=Za hT;clear h hmax hn hnm hT;go_enter Tryz.func95,Tryz.ntmps95;go_wp2;go_loopw [3] (fun y wr=>∃ (k:Nat),y=.int .i64 (k:Int)∧Hid (1≤k∧(k≤n∨k=1))∧Hid (∀ q x y,q+1<k→X[q]?=some x→X[q+1]?=some y→lessD x.nm.data.toList y.nm.data.toList=true)∧Hid (Below w.heap.size w wr)) (fun y _=>n - (intOf y).toNat)
  case atStart=>exact ⟨1,rfl,Za ⟨Zj _,.inr rfl⟩,Za (fun q x y hq=>absurd hq (by omega)),Za (Below.refl _ _)⟩
  case round =>
    obtain ⟨k,rfl,HK,HP,HB⟩:=hrel
    rename World=>wr;by_cases hk:k<n
    · have hki : (k : Int)<(n:Int):=by omega
      obtain ⟨q,hq⟩:∃ q,q+1=k:=⟨k - 1,by have:=HK.out;omega⟩;have hqi:(q:Int)<(n:Int):=by omega
      have hqw:IntKind.i64.wrap ((k:Int) - 1)=(q:Int):=by rw [Zg];have:=HN.out;omega
      have hkw:IntKind.i64.wrap ((k:Int)+1)=(k:Int)+1:=by rw [Zg];have:=HN.out;omega
      obtain ⟨x,hx⟩:∃ x,X[q]?=some x:=⟨_,Zh (by have:=HN.out;omega)⟩;obtain ⟨y,hy⟩:∃ y,X[k]?=some y:=⟨_,Zh (by have:=HN.out;omega)⟩;obtain ⟨g0,o0,rfl,cx⟩:=lies_nm (H.out.below HB.out) hx;obtain ⟨g1,o1,he,cy⟩:=lies_nm (H.out.below HB.out) hy;injection he with he
      injection he with he1 he2
      subst he1 he2;have HXY:=Za (And.intro hx (And.intro hy hq));have HKK:=Za hk;have HLE:=Za (less_any x.nm y.nm wr.drew (by have:=HNM.out x (Zx hx);omega) (by have:=HNM.out y (Zx hy);omega) (tabs_below HT.out (HB.out.trans ((below_drw wr).mono HB.out.size))));clear hx hy hq hk;obtain ⟨z,hz⟩:∃ z,lessD x.nm.data.toList y.nm.data.toList=z:=⟨_,rfl⟩;have HZ:=Za hz;cases z
      · clear hz; go_wp2;go_still_tail 11,(by kernel_rfl);change wpList _ _ _ _ _ wr.drew
        go_wp2_with (go_at_call 124;refine HLE.out.mono ?_;rintro e w2 ⟨rfl,hb⟩;have HB2:=Za (below_nxt hb (below_drw wr))
                     rw [HZ.out];clear hb)
        go_ret;refine ⟨⟨false,rfl,⟨(fun h=>by cases h),fun h=>?_⟩⟩,below_nxt HB2.out HB.out⟩;have h1:=h q x y HXY.out.1 (by rw [HXY.out.2.2];exact HXY.out.2.1);rw [HZ.out] at h1;cases h1
      · clear hz; go_wp2;go_still_tail 11,(by kernel_rfl);change wpList _ _ _ _ _ wr.drew
        go_wp2_with (go_at_call 124;refine HLE.out.mono ?_;rintro e w2 ⟨rfl,hb⟩;have HB2:=Za (below_nxt hb (below_drw wr))
                     rw [HZ.out];clear hb)
        go_roundw
        case rel=>
          refine ⟨k+1,by go_num,Za ⟨by omega,.inl HKK.out⟩,Za (fun q' x' y' hq' hx' hy'=>?_),Za (below_nxt HB2.out HB.out)⟩;by_cases e1:q'=q
          · subst e1;have h1:=HXY.out;rw [h1.1] at hx';rw [h1.2.2,h1.2.1] at hy';injection hx' with hx'
            injection hy' with hy'
            rw [← hx', ← hy'];exact HZ.out
          · exact HP.out q' x' y' (by have:=HXY.out.2.2;omega) hx' hy'
        case measure=>have:=HKK.out;simp [intOf];omega
    · have hki:¬ (k:Int)<(n:Int):=by omega
      have HKE:=Za hk;clear hk;go_wp2;go_ret;refine ⟨⟨true,rfl,⟨fun _ q x y hx hy=>?_,fun _=>rfl⟩⟩,HB.out⟩;refine HP.out q x y ?_ hx hy;have h1:=(Zn.1 hy).1;have:=HN.out;have:=HKE.out;omega
/- Whether cookies are apart. Conditions:no more than a million entries. -/
def Apart (X:List Ent):Prop:=∀ c,(X.filter (fun e=>e.ck==c)).length≤1
def Next (X:List Ent):Prop:=∀ q x y,X[q]?=some x→X[q+1]?=some y→x.ck≠y.ck
theorem apart_of:∀ {L:List Ent},Ord Ent.ck L→Next L→Apart L
  | [],_,_=>fun c=>by simp
  | [a],_,_=>fun c=>by
    rw [List.filter_cons]
    split <;> simp
  | a :: b ::t,ho,hn=>fun c=>by
    have ho':=List.pairwise_cons.1 ho;have h1:=apart_of (L:=b::t) ho'.2 (fun q x y hx hy=>hn (q+1) x y hx hy) c;have hab:a.ck<b.ck:=Nat.lt_of_le_of_ne (ho'.1 b (by simp)) (hn 0 a b rfl rfl);rw [List.filter_cons]
    split
    · rename_i he
      have hc:a.ck=c:=by simpa using he
      have h2:(b::t).filter (fun e=>e.ck==c)=[]:=by
        rw [List.filter_eq_nil_iff];intro e he'
        have h3:b.ck≤e.ck:=by
          rcases List.mem_cons.1 he' with rfl | h4
          · exact Zj _
          · exact (List.pairwise_cons.1 ho'.2).1 e h4
        have:¬ e.ck=c:=by omega
        simpa using this
      rw [h2];simp
    · exact h1
theorem apart_next {L:List Ent} (h:Apart L):Next L:=by
  intro q x y hx hy he;obtain ⟨h1,h2⟩:=Zn.1 hx;obtain ⟨h3,h4⟩:=Zn.1 hy
  have e1:L=L.take q++x::y::L.drop (q+1+1):=by
    rw [← h2, ← h4,List.getElem_cons_drop,List.getElem_cons_drop,List.take_append_drop]
  have h5:=h x.ck;rw [e1,List.filter_append,List.filter_cons_of_pos (by simp),List.filter_cons_of_pos (by simp [he]),Zf,List.length_cons,List.length_cons] at h5;omega
theorem apart_same {X L:List Ent} (h:SameK Ent.ck X L):Apart X↔Apart L:=by
  constructor
  · intro ha c;rw [h c];exact ha c
  · intro ha c;rw [← h c];exact ha c
def ApartP (X:List Ent) (e:Ending):Prop:=∃ z:Bool,e=.returned (.bool z)∧(z=true↔Apart X)
theorem apart_any (A:Option Addr) (n c:Nat) (X:List Ent) (hmax:n≤1000000) (w:World) (h:Lies ecs 5 w A X) (hn:X.length=n):
    Calls Tryz.prog 96 #[.slice A n c] w fun e w'=>ApartP X e∧Below w.heap.size w w':=by
  have HS:=Za (bycookies_any A n c X hmax w h hn);have HN:=Za (And.intro hmax hn);clear h hmax hn;go_enter Tryz.func96,Tryz.ntmps96
  go_wp2_with (go_at_call 57;refine HS.out.mono ?_;rintro e w4 ⟨A2,c2,L,rfl,ho,hord,hs,hb⟩;have HL:=Za (Lies.own (by decide) ecs_len ho)
               have HO:=Za (And.intro hord (And.intro hs (show L.length=n by have h1:=ho.1;rw [flat_len ecs_len] at h1;omega)));have HB4:=Za hb;clear ho hord hs hb)
  go_loopw [3] (fun y wr=>∃ (k:Nat),y=.int .i64 (k:Int)∧Hid (1≤k∧(k≤n∨k=1))∧Hid (∀ q x y,q+1<k→L[q]?=some x→L[q+1]?=some y→x.ck≠y.ck)∧Hid (Below w4.heap.size w4 wr)) (fun y _=>n - (intOf y).toNat)
  case atStart=>exact ⟨1,rfl,Za ⟨Zj _,.inr rfl⟩,Za (fun q x y hq=>absurd hq (by omega)),Za (Below.refl _ _)⟩
  case round =>
    obtain ⟨k,rfl,HK,HP,HB⟩:=hrel
    rename World=>wr;by_cases hk:k<n
    · have hki:(k:Int)<(n:Int):=by omega
      obtain ⟨q,hq⟩:∃ q,q+1=k:=⟨k - 1,by have:=HK.out;omega⟩;have hqi:(q:Int)<(n:Int):=by omega
      have hqw:IntKind.i64.wrap ((k:Int) - 1)=(q:Int):=by rw [Zg];have:=HN.out;omega
      have hkw:IntKind.i64.wrap ((k:Int)+1)=(k:Int)+1:=by rw [Zg];have:=HN.out;omega
      have hql:q<L.length:=by have:=HO.out.2.2;omega
      have hkl:k<L.length:=by have:=HO.out.2.2;omega
      obtain ⟨x,hx⟩:∃ x,L[q]?=some x:=⟨_,Zh hql⟩;obtain ⟨y,hy⟩:∃ y,L[k]?=some y:=⟨_,Zh hkl⟩;obtain ⟨g0,o0,rfl,hc⟩:=(HL.out.below HB.out).at_ hql
      obtain ⟨g1,o1,he,hc1⟩:=(HL.out.below HB.out).at_ hkl
      injection he with he
      injection he with he1 he2
      subst he1 he2;rw [(Zn.1 hx).2] at hc;rw [(Zn.1 hy).2] at hc1;have cx:wr.cell? ⟨g0,o0+q*5+4,none⟩=some (.int .u32 (x.ck:Int)):=hc 4 _ rfl;have cy:wr.cell? ⟨g0,o0+k*5+4,none⟩=some (.int .u32 (y.ck:Int)):=hc1 4 _ rfl;have HXY:=Za (And.intro hx (And.intro hy hq));have HKK:=Za hk;obtain ⟨a,ha⟩:∃ a,x.ck=a:=⟨_,rfl⟩;obtain ⟨b,hb⟩:∃ b,y.ck=b:=⟨_,rfl⟩;rw [ha] at cx;rw [hb] at cy;have HAB:=Za (And.intro ha hb);clear hc hc1 hx hy hq hk hql hkl ha hb;by_cases he:a=b
      · subst he;go_wp2;go_still_tail 11,(by kernel_rfl);change wpList _ _ _ _ _ wr.drew;go_wp2;go_ret;refine ⟨⟨false,rfl,⟨(fun h=>by cases h),fun h=>?_⟩⟩,(below_nxt (HB.out.trans ((below_drw wr).mono HB.out.size)) HB4.out)⟩;exact absurd (by rw [HAB.out.1,HAB.out.2]) (apart_next ((apart_same HO.out.2.1).1 h) q x y HXY.out.1 (by rw [HXY.out.2.2];exact HXY.out.2.1))
      · have hei:¬ (a:Int)=(b:Int):=by omega
        have HE:=Za he;clear he;go_wp2;go_still_tail 11,(by kernel_rfl);change wpList _ _ _ _ _ wr.drew;go_wp2;go_roundw
        case rel=>
          refine ⟨k+1,by go_num,Za ⟨by omega,.inl HKK.out⟩,Za (fun q' x' y' hq' hx' hy'=>?_),Za (HB.out.trans ((below_drw wr).mono HB.out.size))⟩;by_cases e1:q'=q
          · subst e1;have h1:=HXY.out;rw [h1.1] at hx';rw [h1.2.2,h1.2.1] at hy';injection hx' with hx'
            injection hy' with hy'
            rw [← hx', ← hy',HAB.out.1,HAB.out.2];exact HE.out
          · exact HP.out q' x' y' (by have:=HXY.out.2.2;omega) hx' hy'
        case measure=>have:=HKK.out;simp [intOf];omega
    · have hki:¬ (k:Int)<(n:Int):=by omega
      have HKE:=Za hk;clear hk;go_wp2;go_ret;refine ⟨⟨true,rfl,⟨fun _=>(apart_same HO.out.2.1).2 (apart_of HO.out.1 (fun q x y hx hy=>HP.out q x y ?_ hx hy)),fun _=>rfl⟩⟩,below_nxt HB.out HB4.out⟩;have h1:=(Zn.1 hy).1;have:=HO.out.2.2;have:=HKE.out;omega
end Go.Proofs.YtijffkklhgnknaaGreatDoor
