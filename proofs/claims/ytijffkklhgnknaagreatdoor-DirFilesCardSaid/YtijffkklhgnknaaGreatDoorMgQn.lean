/- A row's entries put in order, those of one cookie as they stood: stable. Conditions: the closure's key lies there. -/
import Derived.Test.YtijffkklhgnknaaGreatDoorAz
import Derived.Test.YtijffkklhgnknaaGreatDoorQm
set_option maxHeartbeats 20000000
set_option linter.unusedVariables false
set_option maxRecDepth 20000
namespace Go.Proofs.YtijffkklhgnknaaGreatDoor
open Go.RowKit
def chk (bs q:Nat) (L:List Ent):List Ent:=(L.drop (q*bs)).take bs
theorem chk_get (bs q:Nat) (L:List Ent) (i:Nat):(chk bs q L)[i]?=if i<bs then L[q*bs+i]? else none:=by
  unfold chk;rw [List.getElem?_take]
  split
  · rw [List.getElem?_drop]
  · rfl
theorem mid_get {P M M' S:List Ent} (hl:M'.length=M.length) {j:Nat} (h:j<P.length∨P.length+M.length≤j):(P++(M'++S))[j]?=(P++(M++S))[j]?:=by
  rcases h with h | h
  · rw [Zv h,Zv h]
  · rw [Zm (by omega),Zm (by omega),Zm (by omega),Zm (by omega),hl]
theorem chk_same {P M M' S:List Ent} {bs q:Nat} (hl:M'.length=M.length) (h:q*bs+bs≤P.length∨P.length+M.length≤q*bs):chk bs q (P++(M'++S))=chk bs q (P++(M++S)):=by
  apply List.ext_getElem?;intro i;rw [chk_get,chk_get]
  split
  · rw [mid_get hl (by omega)]
  · rfl
theorem chk_mid {P M S:List Ent} {bs q:Nat} (hP:P.length=q*bs) (h:M.length=bs∨(M.length≤bs∧S=[])):chk bs q (P++(M++S))=M:=by
  unfold chk;rw [← hP,List.drop_left];rcases h with h | ⟨h,rfl⟩
  · rw [← h,List.take_left]
  · rw [Zy,Zz h]
theorem chk_none {L:List Ent} {bs q:Nat} (h:L.length≤q*bs):chk bs q L=[]:=by
  unfold chk;rw [List.drop_of_length_le h,List.take_nil]
theorem chk_two (bs c:Nat) (L:List Ent):chk (2*bs) c L=chk bs (2*c) L++chk bs (2*c+1) L:=by
  apply List.ext_getElem?;intro i;have e1:c*(2*bs)=2*c*bs:=by rw [Nat.mul_comm 2 c,Nat.mul_assoc]
  have e2:(2*c+1)*bs=2*c*bs+bs:=Nat.succ_mul _ _;rw [chk_get];by_cases h1:i<(chk bs (2*c) L).length
  · have h2:i<bs:=by unfold chk at h1;rw [Zu] at h1;omega
    rw [Zv h1,chk_get,if_pos (by omega),if_pos h2,e1]
  · rw [Zm (by omega),chk_get];have h3:(chk bs (2*c) L).length=min bs (L.length - 2*c*bs):=by unfold chk;rw [Zu,Zs]
    by_cases h4:bs≤L.length - 2*c*bs
    · have h5:(chk bs (2*c) L).length=bs:=by omega
      rw [h5,e1,e2];by_cases h6:i<2*bs
      · rw [if_pos h6,if_pos (by omega),show 2*c*bs+bs+(i - bs)=2*c*bs+i by omega]
      · rw [if_neg h6,if_neg (by omega)]
    · have h5:L.length≤2*c*bs+i:=by omega
      rw [e1,e2,List.getElem?_eq_none h5,List.getElem?_eq_none (by omega)]
      split <;> split <;> rfl
theorem cut3 (L:List Ent) (a k:Nat):L=L.take a++((L.drop a).take k++L.drop (a+k)):=by
  rw [← List.drop_drop,List.take_append_drop,List.take_append_drop]
theorem ck0 (L:List Ent) (bs:Nat) (h:L.length≤bs):chk bs 0 L=L:=by
  unfold chk;rw [Nat.zero_mul,List.drop_zero,Zz h]
theorem same_mid {P M M' S:List Ent} (h:SameK Ent.ck M M'):SameK Ent.ck (P++(M++S)) (P++(M'++S)):=(SameK.refl P).app (h.app (SameK.refl S))
theorem stable_any (gr gk n cp:Nat) (X:List Ent) (Z:List Value) (hn:X.length=n) (hmax:n≤1000000) (w:World) (hk:w.cell? ⟨gk,0,none⟩=some (.func (.func 93) #[] #[])) (hkr:gk≠gr) (h:ER w gr X Z):
    Calls Tryz.prog 135 #[.slice (some ⟨gr,0,none⟩) n cp,.int .i64 (n:Int),.func (.func 121) #[] #[.pointer (some ⟨gk,0,none⟩)]] w fun e w'=>e=.returned (.tuple #[])∧∃ X',ER w' gr X' Z∧Ord Ent.ck X'∧SameK Ent.ck X X'∧Chg [gr] w w':=by
  have H:=Za h;have HK:=Za (And.intro hk hkr);have HN:=Za (p:=X.length=n∧n≤1000000) ⟨hn,hmax⟩;clear h hk hkr hn hmax;go_enter Tryz.func135,Tryz.ntmps135;go_wp2;go_loopw [7,8] (fun u v wr=>∃ (a b c:Nat) (L:List Ent),u=.int .i64 (a:Int)∧v=.int .i64 (b:Int)∧Hid (a=c*20∧b=a+20∧a≤n∧L.length=n)∧Hid (SameK Ent.ck X L∧∀ q,q<c→Ord Ent.ck (chk 20 q L))∧Hid (ER wr gr L Z)∧Hid (Chg [gr] w wr)) (fun u _ _=>n - (intOf u).toNat)
  case atStart=>exact ⟨0,20,0,X,rfl,rfl,Za ⟨rfl,rfl,Nat.zero_le _,HN.out.1⟩,Za ⟨SameK.refl _,fun q hq=>absurd hq (Nat.not_lt_zero _)⟩,H,Za (Chg.refl _ _)⟩
  case round =>
    clear H;obtain ⟨a,b,c,L,rfl,rfl,HA,HB,HR,HC⟩:=hrel
    rename World=>wo;have HK1:=Za (HC.out.cell HK.out.1 (by simp;exact HK.out.2));by_cases hb:b≤n
    · have hbi : (b :Int)≤(n:Int):=by omega
      obtain ⟨b2,hb2⟩:∃ b2,b+20=b2:=⟨_,rfl⟩;have hbw:IntKind.i64.wrap ((b:Int)+20)=(b2:Int):=by rw [Zg];have:=HN.out;omega
      have HB2:=Za (p:=b+20=b2∧b≤n) ⟨hb2,hb⟩;have hP:(L.take a).length=a:=by rw [Zu];have:=HA.out;omega
      have hM:((L.drop a).take 20).length=20:=by rw [Zu,Zs];have:=HA.out;omega
      have hc3:=cut3 L a 20;have HPM:=Za (And.intro hP (And.intro hM hc3));have HIN:=Za (insertion_any gr gk n cp a b (L.take a) ((L.drop a).take 20) (L.drop (a+20)) Z hP (by rw [hM];exact HA.out.2.1.symm) (by rw [Zs];have:=HA.out;omega) HN.out.2 wo HK1.out HK.out.2 (by rw [← hc3];exact HR.out));clear hb hb2 hP hM hc3
      go_wp2_with (go_at_call 144;refine HIN.out.mono ?_;rintro e w2 ⟨rfl,M,hr,ho,hs,hc⟩;have HR2:=Za hr
                   have HO2:=Za (And.intro ho hs);have HC2:=Za (HC.out.trans hc (fun z hz=>.inl hz));clear hr ho hs hc)
      go_roundw
      case rel=>
        have hl:M.length=20:=by rw [← HO2.out.2.len,HPM.out.2.1]
        refine ⟨b,b2,c+1,L.take a++(M++L.drop (a+20)),rfl,rfl,Za ⟨by have:=HA.out;omega,HB2.out.1.symm,HB2.out.2,?_⟩,Za ⟨?_,fun q hq=>?_⟩,HR2,HC2⟩
        · rw [Zf,Zf,HPM.out.1,hl,Zs];have:=HA.out;have:=HB2.out;omega
        · have h1:=HB.out.1;rw [HPM.out.2.2] at h1;exact h1.trans (same_mid HO2.out.2)
        · by_cases e:q=c
          · subst e;rw [chk_mid (by rw [HPM.out.1];exact HA.out.1) (.inl hl)];exact HO2.out.1
          · have h1:=HB.out.2 q (by omega);rw [HPM.out.2.2] at h1;rw [chk_same (M:=(L.drop a).take 20) (by rw [hl,HPM.out.2.1]) (.inl (by rw [HPM.out.1];have:=HA.out;omega))];exact h1
      case measure=>have:=HA.out;have:=HB2.out;simp [intOf];omega
    · have hbi : ¬ (b : Int) ≤(n:Int):=by omega
      have hP:(L.take a).length=a:=by rw [Zu];have:=HA.out;omega
      obtain ⟨k,hk⟩:∃ k,n - a=k:=⟨_,rfl⟩;have hM:((L.drop a).take k).length=k:=by rw [Zu,Zs];have:=HA.out;omega
      have hc3:=cut3 L a k;have hS:L.drop (a+k)=[]:=List.drop_of_length_le (by have:=HA.out;omega);rw [hS] at hc3;have HPM:=Za (p:=(L.take a).length=a∧((L.drop a).take k).length=k∧L=L.take a++((L.drop a).take k++[])∧a+k=n∧k<20) ⟨hP,hM,hc3,by have:=HA.out;omega,by have:=HA.out;omega⟩;have HIN:=Za (insertion_any gr gk n cp a n (L.take a) ((L.drop a).take k) [] Z hP (by rw [hM];have:=HA.out;omega) (by simp) HN.out.2 wo HK1.out HK.out.2 (by rw [← hc3];exact HR.out));clear hb hP hM hc3 hk hS
      go_wp2_with (go_at_call 144;refine HIN.out.mono ?_;rintro e w2 ⟨rfl,M,hr,ho,hs,hc⟩;have HR2:=Za hr
                   have HO2:=Za (And.intro ho hs);have HC2:=Za (HC.out.trans hc (fun z hz=>.inl hz));clear hr ho hs hc)
      have hl:M.length=k:=by rw [← HO2.out.2.len,HPM.out.2.1]
      have HS0:=Za (p:=SameK Ent.ck X (L.take a++(M++[]))∧(∀ q,Ord Ent.ck (chk 20 q (L.take a++(M++[]))))∧(L.take a++(M++[])).length=n) (by
        have h9:(L.take a++(M++[])).length=n:=by
          rw [Zf,Zf,HPM.out.1,hl,List.length_nil];have:=HPM.out;omega
        refine ⟨?_,fun q=>?_,h9⟩
        · have h1:=HB.out.1;rw [HPM.out.2.2.1] at h1;exact h1.trans (same_mid HO2.out.2)
        · rcases Nat.lt_trichotomy q c with e | e | e
          · have h1:=HB.out.2 q e;rw [HPM.out.2.2.1] at h1;rw [chk_same (M:=(L.drop a).take k) (by rw [hl,HPM.out.2.1]) (.inl (by rw [HPM.out.1];have:=HA.out;omega))];exact h1
          · subst e;rw [chk_mid (by rw [HPM.out.1];exact HA.out.1) (.inr ⟨by rw [hl];have:=HPM.out;omega,rfl⟩)];exact HO2.out.1
          · rw [chk_none (by rw [h9];have:=HA.out;have:=HPM.out;omega)];exact Ord.nil)
      generalize L.take a++(M++[])=L0 at HR2 HS0;clear HPM HO2 hl HA HB HR HC HIN HK1 hbi;go_loopw [6] (fun u wr=>∃ (bs:Nat) (L:List Ent),u=.int .i64 (bs:Int)∧Hid (20≤bs∧bs≤2000000∧L.length=n)∧Hid (SameK Ent.ck X L∧∀ q,Ord Ent.ck (chk bs q L))∧Hid (ER wr gr L Z)∧Hid (Chg [gr] w wr)) (fun u _=>n - (intOf u).toNat)
      case atStart=>exact ⟨20,L0,rfl,Za ⟨Zj _,by decide,HS0.out.2.2⟩,Za ⟨HS0.out.1,HS0.out.2.1⟩,HR2,HC2⟩
      case round =>
        clear HR2 HC2 HS0;obtain ⟨bs,L,rfl,HA,HB,HR,HC⟩:=hrel
        rename World=>wp;by_cases hb:bs<n
        · have hbi : (bs : Int)<(n:Int):=by omega
          obtain ⟨d,hd⟩:∃ d,2*bs=d:=⟨_,rfl⟩;have hdw:IntKind.i64.wrap (2*(bs:Int))=(d:Int):=by rw [Zg];have:=HA.out;omega
          have hdw2:IntKind.i64.wrap ((bs:Int)*2)=(d:Int):=by rw [Zg];have:=HA.out;omega
          have HD:=Za (p:=2*bs=d∧bs<n∧20≤bs) ⟨hd,hb,HA.out.1⟩;clear hb hd;go_wp2;go_loopw [7,8] (fun u v wr=>∃ (a b c:Nat) (L:List Ent),u=.int .i64 (a:Int)∧v=.int .i64 (b:Int)∧Hid (a=c*d∧b=a+d∧a≤n∧L.length=n)∧Hid (SameK Ent.ck X L∧(∀ q,q<c→Ord Ent.ck (chk d q L))∧∀ q,2*c≤q→Ord Ent.ck (chk bs q L))∧Hid (ER wr gr L Z)∧Hid (Chg [gr] w wr)) (fun u _ _=>n - (intOf u).toNat)
          case atStart=>exact ⟨0,d,0,L,rfl,rfl,Za ⟨(Nat.zero_mul _).symm,(Nat.zero_add _).symm,Nat.zero_le _,HA.out.2.2⟩,Za ⟨HB.out.1,fun q hq=>absurd hq (Nat.not_lt_zero _),fun q _=>HB.out.2 q⟩,HR,HC⟩
          case round =>
            clear HR HC HB HA;obtain ⟨a,b,c,L,rfl,rfl,HA,HB,HR,HC⟩:=hrel
            rename World=>wo;have HK1:=Za (HC.out.cell HK.out.1 (by simp;exact HK.out.2));obtain ⟨m,hm⟩:∃ m,a+bs=m:=⟨_,rfl⟩;have hmw:IntKind.i64.wrap ((a:Int)+(bs:Int))=(m:Int):=by rw [Zg];have:=HA.out;have:=HD.out;have:=HN.out;omega
            have hac:2*c*bs=a:=by have h1:=HA.out.1;have h2:=HD.out.1;rw [h1, ← h2,Nat.mul_comm 2 c,Nat.mul_assoc]
            have hac2:(2*c+1)*bs=m:=by rw [Nat.succ_mul,hac];exact hm
            have HMA:=Za (p:=a+bs=m∧2*c*bs=a∧(2*c+1)*bs=m) ⟨hm,hac,hac2⟩;have hPl:(L.take a).length=a:=by rw [Zu];have:=HA.out;omega
            clear hm hac hac2;by_cases hb:b≤n
            · have hbi : (b :Int)≤(n:Int):=by omega
              obtain ⟨b2,hb2⟩:∃ b2,b+d=b2:=⟨_,rfl⟩;have hbw:IntKind.i64.wrap ((b:Int)+(d:Int))=(b2:Int):=by rw [Zg];have:=HN.out;have:=HD.out;omega
              have hXl:(chk bs (2*c) L).length=bs:=by unfold chk;rw [Zu,Zs,HMA.out.2.1];have:=HA.out;have:=HD.out;omega
              have hYl:(chk bs (2*c+1) L).length=bs:=by unfold chk;rw [Zu,Zs,HMA.out.2.2];have:=HA.out;have:=HD.out;have:=HMA.out;omega
              have hc3:L=L.take a++((chk bs (2*c) L++chk bs (2*c+1) L)++L.drop (a+d)):=by
                rw [← chk_two,HD.out.1];have h1:=cut3 L a d;unfold chk;rw [← HA.out.1];exact h1
              have HPM:=Za (p:=(L.take a).length=a∧(chk bs (2*c) L++chk bs (2*c+1) L).length=d∧L=L.take a++((chk bs (2*c) L++chk bs (2*c+1) L)++L.drop (a+d))) ⟨hPl,by rw [Zf,hXl,hYl];have:=HD.out;omega,hc3⟩;have HIN:=Za (merges_any gr gk n cp Z HN.out.2 (b - a) a m b (Zj _) (L.take a) (chk bs (2*c) L) (chk bs (2*c+1) L) (L.drop (a+d)) wo hPl (by rw [hXl];exact HMA.out.1) (by rw [hYl];have:=HMA.out;have:=HA.out;have:=HD.out;omega) (by rw [Zs];have:=HA.out;omega) (by rw [hXl];have:=HD.out;omega) (by rw [hYl];have:=HD.out;omega) (HB.out.2.2 _ (Zj _)) (HB.out.2.2 _ (Nat.le_succ _)) HK1.out HK.out.2 (by rw [← Zi (chk bs (2*c) L), ← hc3];exact HR.out));have HB2:=Za (p:=b+d=b2∧b≤n) ⟨hb2,hb⟩;clear hb hb2 hXl hYl hc3 hPl
              go_wp2_with (go_at_call 145;refine HIN.out.mono ?_;rintro e w2 ⟨rfl,M,hr,ho,hs,hc⟩;have HR2:=Za hr
                           have HO2:=Za (And.intro ho hs);have HC2:=Za (HC.out.trans hc (fun z hz=>.inl hz));clear hr ho hs hc)
              go_roundw
              case rel =>
                have hl:M.length=d:=by rw [← HO2.out.2.len,HPM.out.2.1]
                refine ⟨b,b2,c+1,L.take a++(M++L.drop (a+d)),rfl,rfl,Za ⟨by rw [Nat.succ_mul];have:=HA.out;omega,HB2.out.1.symm,HB2.out.2,?_⟩,Za ⟨?_,fun q hq=>?_,fun q hq=>?_⟩,HR2,HC2⟩
                · rw [Zf,Zf,HPM.out.1,hl,Zs];have:=HA.out;have:=HB2.out;omega
                · have h1:=HB.out.1;rw [HPM.out.2.2] at h1;exact h1.trans (same_mid HO2.out.2)
                · by_cases e:q=c
                  · subst e;rw [chk_mid (by rw [HPM.out.1];exact HA.out.1) (.inl hl)];exact HO2.out.1
                  · have h1:=HB.out.2.1 q (by omega);rw [HPM.out.2.2] at h1
                    rw [chk_same (M:=chk bs (2*c) L++chk bs (2*c+1) L) (by rw [hl,HPM.out.2.1]) (.inl (by
                      rw [HPM.out.1,HA.out.1];have h3:(q+1)*d≤c*d:=Nat.mul_le_mul_right d (by omega);rw [Nat.succ_mul] at h3;exact h3))]
                    exact h1
                · have h1:=HB.out.2.2 q (by omega);rw [HPM.out.2.2] at h1
                  rw [chk_same (M:=chk bs (2*c) L++chk bs (2*c+1) L) (by rw [hl,HPM.out.2.1]) (.inr (by
                    rw [HPM.out.1,HPM.out.2.1];have h3:(2*(c+1))*bs≤q*bs:=Nat.mul_le_mul_right bs hq;have h4:(2*(c+1))*bs=2*c*bs+2*bs:=by rw [Nat.mul_succ,Nat.add_mul]
                    have h5:=HMA.out.2.1;have h6:=HD.out.1;omega))]
                  exact h1
              case measure=>have:=HA.out;have:=HB2.out;have:=HD.out;simp [intOf];omega
            · have hbi : ¬ (b :Int)≤(n:Int):=by omega
              have HBN:=Za (p:=n<a+d) (by have:=HA.out;omega);clear hb
              have hfar:∀ (L':List Ent) (q:Nat),L'.length=n→c<q→Ord Ent.ck (chk d q L'):=fun L' q hl hq=>by
                have h3:(c+1)*d≤q*d:=Nat.mul_le_mul_right d (by omega);rw [Nat.succ_mul] at h3;rw [chk_none (by have:=HA.out;have:=HBN.out;omega)];exact Ord.nil
              have HFAR:=Za hfar;clear hfar;by_cases hmn:m<n
              · have hmi : (m :Int)<(n:Int):=by omega
                have hXl:(chk bs (2*c) L).length=bs:=by unfold chk;rw [Zu,Zs,HMA.out.2.1];have:=HA.out;have:=HMA.out;omega
                have hYl:(chk bs (2*c+1) L).length=n - m:=by unfold chk;rw [Zu,Zs,HMA.out.2.2];have:=HA.out;have:=HD.out;have:=HBN.out;have:=HMA.out;omega
                have hc3:L=L.take a++((chk bs (2*c) L++chk bs (2*c+1) L)++[]):=by
                  rw [← chk_two,HD.out.1];have h1:=cut3 L a d;rw [List.drop_of_length_le (by have:=HA.out;have:=HBN.out;omega:L.length≤a+d)] at h1;unfold chk;rw [← HA.out.1];exact h1
                have HPM:=Za (p:=(L.take a).length=a∧(chk bs (2*c) L++chk bs (2*c+1) L).length=n - a∧L=L.take a++((chk bs (2*c) L++chk bs (2*c+1) L)++[])) ⟨hPl,by rw [Zf,hXl,hYl];have:=HMA.out;omega,hc3⟩;have HIN:=Za (merges_any gr gk n cp Z HN.out.2 (n - a) a m n (Zj _) (L.take a) (chk bs (2*c) L) (chk bs (2*c+1) L) [] wo hPl (by rw [hXl];exact HMA.out.1) (by rw [hYl];omega) (by simp) (by rw [hXl];have:=HD.out;omega) (by rw [hYl];omega) (HB.out.2.2 _ (Zj _)) (HB.out.2.2 _ (Nat.le_succ _)) HK1.out HK.out.2 (by rw [← Zi (chk bs (2*c) L), ← hc3];exact HR.out));have HMN:=Za hmn;clear hmn hXl hYl hc3 hPl
                go_wp2_with (go_at_call 145;refine HIN.out.mono ?_;rintro e w2 ⟨rfl,M,hr,ho,hs,hc⟩;have HR2:=Za hr
                             have HO2:=Za (And.intro ho hs);have HC2:=Za (HC.out.trans hc (fun z hz=>.inl hz));clear hr ho hs hc)
                go_roundw
                case rel =>
                  have hl:M.length=n - a:=by rw [← HO2.out.2.len,HPM.out.2.1]
                  have h9:(L.take a++(M++[])).length=n:=by
                    rw [Zf,Zf,HPM.out.1,hl,List.length_nil];have:=HA.out;omega
                  refine ⟨d,L.take a++(M++[]),rfl,Za ⟨by have:=HD.out;omega,by have:=HD.out;have:=HN.out;omega,h9⟩,Za ⟨?_,fun q=>?_⟩,HR2,HC2⟩
                  · have h1:=HB.out.1;rw [HPM.out.2.2] at h1;exact h1.trans (same_mid HO2.out.2)
                  · rcases Nat.lt_trichotomy q c with e | e | e
                    · have h1:=HB.out.2.1 q e;rw [HPM.out.2.2] at h1
                      rw [chk_same (M:=chk bs (2*c) L++chk bs (2*c+1) L) (by rw [hl,HPM.out.2.1]) (.inl (by
                        rw [HPM.out.1,HA.out.1];have h3:(q+1)*d≤c*d:=Nat.mul_le_mul_right d (by omega);rw [Nat.succ_mul] at h3;exact h3))]
                      exact h1
                    · subst e;rw [chk_mid (by rw [HPM.out.1];exact HA.out.1) (.inr ⟨by rw [hl];have:=HBN.out;omega,rfl⟩)];exact HO2.out.1
                    · exact HFAR.out _ q h9 e
                case measure=>have:=HD.out;simp [intOf];omega
              · have hmi:¬ (m:Int)<(n:Int):=by omega
                have HMN:=Za (p:=n≤m) (by omega);clear hmn hPl;go_wp2;go_roundw
                case rel=>
                  refine ⟨d,L,rfl,Za ⟨by have:=HD.out;omega,by have:=HD.out;have:=HN.out;omega,HA.out.2.2.2⟩,Za ⟨HB.out.1,fun q=>?_⟩,HR,HC⟩;rcases Nat.lt_trichotomy q c with e | e | e
                  · exact HB.out.2.1 q e
                  · subst e;rw [← HD.out.1,chk_two,chk_none (q:=2*q+1) (by rw [HMA.out.2.2,HA.out.2.2.2];exact HMN.out),Zy];exact HB.out.2.2 _ (Zj _)
                  · exact HFAR.out _ q HA.out.2.2.2 e
                case measure=>have:=HD.out;simp [intOf];omega
        · have hbi:¬ (bs:Int)<(n:Int):=by omega
          have h9:Ord Ent.ck L:=by
            have h1:=HB.out.2 0;rw [ck0 L bs (by have:=HA.out;omega)] at h1;exact h1
          have HO9:=Za h9;clear hb h9;go_wp2;go_end0;exact ⟨rfl,L,HR.out,HO9.out,HB.out.1,HC.out⟩
/- Rows of entries:copied,put in order by cookies. Conditions:the rows are no longer than a million. -/
theorem Lies.src {α:Type} {f:α→List Value} {k n:Nat} {w:World} {A:Option Addr} {xs:List α} (h:Lies f k w A xs) (hk:0<k) (hf:∀ x,(f x).length=k) (hn:xs.length=n):n=0∧A=none∨∃ ad,A=some ad∧∀ j u,(xs.flatMap f)[j]?=some u→w.cell? (ad.add j)=some u:=by
  rcases h with rfl | ⟨g,o,rfl,h⟩
  · subst hn
    cases A with
    | none=>exact .inl ⟨rfl,rfl⟩
    | some ad=>exact .inr ⟨ad,rfl,fun j u hu=>by simp at hu⟩
  · refine .inr ⟨_,rfl,fun j u hu=>?_⟩;have hj:=(Zn.1 hu).1;rw [flat_len hf] at hj;have hq:j / k<xs.length:=(Nat.div_lt_iff_lt_mul hk).2 hj;have hr:j % k<k:=Nat.mod_lt _ hk;have he:j / k*k+j % k=j:=by rw [Nat.mul_comm];exact Nat.div_add_mod j k
    have h1:=flat_get hf (Zh hq) (j % k) hr;rw [he,hu] at h1;have h2:=h (j / k) _ (Zh hq) (j % k) u h1.symm;rw [Nat.add_assoc,he] at h2;rwa [Addr.add_lit]
theorem own_er {w:World} {b n c:Nat} {A:Option Addr} {xs:List Ent} (h:w.ownsRow b 61 5 (.slice A n c) n (xs.flatMap ecs)):(A=none∧n=0∧c=0∧xs=[])∨∃ g Z,A=some ⟨g,0,none⟩∧b≤g∧ER w g xs Z∧xs.length=n∧∀ w' X',X'.length=n→ER w' g X' Z→w'.ownsRow b 61 5 (.slice A n c) n (X'.flatMap ecs):=by
  have hl:=h.1;rw [flat_len ecs_len] at hl;have hx:xs.length=n:=by omega
  rcases h.2 with ⟨h1,h2⟩ | ⟨g,cap,cur,h1,hb,hg,hn,hc,hs,ht⟩
  · simp only [Value.slice.injEq] at h1;refine .inl ⟨h1.1,h2,h1.2.2,Zk (by omega)⟩
  · simp only [Value.slice.injEq] at h1;obtain ⟨rfl,_,rfl⟩:=h1;refine .inr ⟨g,cur.toList.drop (n*5),rfl,hb,?_,hx,fun w' X' hX hr=>⟨by rw [flat_len ecs_len,hX],.inr ⟨g,c,_,rfl,hb,hr,hn,hc,?_,?_⟩⟩⟩
    · show w.heap[g]?=_;rw [← ht,List.take_append_drop];exact hg
    · rw [List.size_toArray,Zf,flat_len ecs_len,hX,Zs,Array.length_toList,hs];have:=Nat.mul_le_mul_right 5 hn;omega
    · have h3:(X'.flatMap ecs).length=n*5:=by rw [flat_len ecs_len,hX]
      rw [← h3];exact List.take_left' rfl
theorem insertion_nil (f:Value) (w:World):Calls Tryz.prog 144 #[.slice none 0 0,.int .i64 0,.int .i64 0,f] w fun e w'=>e=.returned (.tuple #[])∧w'=w:=by
  go_enter Tryz.func144,Tryz.ntmps144;go_wp2;go_loopw [8] (fun x wr=>x=.int .i64 1∧wr=w) (fun _ _=>0)
  case atStart=>exact ⟨rfl,rfl⟩
  case round=>
    obtain ⟨rfl,rfl⟩:=hrel;go_wp2;go_end0;exact ⟨rfl,rfl⟩
theorem stable_nil (f:Value) (w:World):Calls Tryz.prog 135 #[.slice none 0 0,.int .i64 0,f] w fun e w'=>e=.returned (.tuple #[])∧w'=w:=by
  go_enter Tryz.func135,Tryz.ntmps135;go_wp2;go_loopw [7,8] (fun u v wr=>u=.int .i64 0∧v=.int .i64 20∧wr=w) (fun _ _ _=>0)
  case atStart=>exact ⟨rfl,rfl,rfl⟩
  case round=>
    obtain ⟨rfl,rfl,rfl⟩:=hrel
    rename World=>wo;go_wp2_with (go_at_call 144;refine (insertion_nil _ _).mono ?_;rintro e w2 ⟨rfl,rfl⟩)
    rename World=>wp;go_loopw [6] (fun u wr=>u=.int .i64 20∧wr=wp) (fun _ _=>0)
    case atStart=>exact ⟨rfl,rfl⟩
    case round=>
      obtain ⟨rfl,rfl⟩:=hrel;go_wp2;go_end0;exact ⟨rfl,rfl⟩
theorem sort_any (b gk n c:Nat) (A:Option Addr) (X:List Ent) (hmax:n≤1000000) (w:World) (hk:w.cell? ⟨gk,0,none⟩=some (.func (.func 93) #[] #[])) (hkb:gk<b) (hb:b≤w.heap.size) (h:w.ownsRow b 61 5 (.slice A n c) n (X.flatMap ecs)):
    Calls Tryz.prog 120 #[.slice A n c,.func (.func 121) #[] #[.pointer (some ⟨gk,0,none⟩)]] w fun e w'=>e=.returned (.tuple #[])∧∃ X',w'.ownsRow b 61 5 (.slice A n c) n (X'.flatMap ecs)∧Ord Ent.ck X'∧SameK Ent.ck X X'∧Below b w w':=by
  rcases own_er h with ⟨rfl,rfl,rfl,rfl⟩ | ⟨g,Z,rfl,hg,hr,hl,hback⟩
  · have H:=Za h;have HB:=Za hb;clear h hk hkb hb hmax;go_enter Tryz.func120,Tryz.ntmps120;go_wp2_with (go_at_call 135;refine (stable_nil _ _).mono ?_;rintro e w2 ⟨rfl,rfl⟩);go_end0;exact ⟨rfl,[],H.out,Ord.nil,SameK.refl _,Below.refl _ _⟩
  · have HS := Za (stable_any g gk n c X Z hl hmax w hk (by omega) hr);have HG:=Za (And.intro hb hg);have HBK:=Za hback;have HL:=Za hl;clear h hk hkb hb hmax hr hg hback hl;go_enter Tryz.func120,Tryz.ntmps120
    go_wp2_with (go_at_call 135;refine HS.out.mono ?_;rintro e w2 ⟨rfl,X',hr,ho,hs,hc⟩;have HR2:=Za (And.intro hr (And.intro ho (And.intro hs hc)))
                 clear hr ho hs hc)
    go_end0;have h9:=HR2.out;exact ⟨rfl,X',HBK.out _ _ (by rw [← h9.2.2.1.len];exact HL.out) h9.1,h9.2.1,h9.2.2.1,h9.2.2.2.below HG.out.1 (fun x hx=>by simp at hx;subst hx;exact HG.out.2)⟩
theorem clone_any (A:Option Addr) (n c:Nat) (X:List Ent) (hmax:n≤1000000) (w:World) (h:Lies ecs 5 w A X) (hn:X.length=n):
    Calls Tryz.prog 119 #[.slice A n c] w fun e w'=>∃ A' c',e=.returned (.slice A' n c')∧w'.ownsRow w.heap.size 61 5 (.slice A' n c') n (X.flatMap ecs)∧Below w.heap.size w w':=by
  have hnil:∀ (w:World) (a:Option Addr) (n c:Nat),(binOp .eql 46 (.slice a n c) (.slice none 0 0)).run Tryz.prog w=.ok (.bool a.isNone) w:=fun w a n c=>Lib.run_eql_slice_nil w _ _ a n c 0 0 Tryz.underlying46
  cases A with
  | none=>
    have h0:X=[]:=by
      rcases h with h | ⟨g,o,h,_⟩
      · exact h
      · cases h
    subst h0;subst hn;clear h hmax;go_enter Tryz.func119,Tryz.ntmps119;go_wp2;go_ret;exact ⟨none,0,rfl,Ye _ _ _ _,Below.refl _ _⟩
  | some ad=>
    have HS:=Za (Lies.src (h.below ((Below.refl w.heap.size w).alloc (Zj _) (.cells #[] 61))) (by decide) ecs_len hn);have HM:=Za (And.intro hmax hn);clear h hmax hn;go_enter Tryz.func119,Tryz.ntmps119
    go_wp2_with (first
      | (at_builtin;refine wp_join rfl _ _ rfl rec_ent w.heap.size (.slice (some ⟨w.heap.size,0,none⟩) 0 0) 0 [] rfl (void_own w _ 5 _ (Zj _)) (some ad) n c (X.flatMap ecs) rfl (by rw [flat_len ecs_len,HM.out.2]) HS.out (flat_one ecs_one _) (by have:=HM.out;omega) (by simp) ?_
         intro v2' w2 hown2 hg2 hat2;rw [Zt,Nat.zero_add] at hown2;obtain ⟨Ax,cx,rfl⟩:=own_sl hown2;have hb2:Below w.heap.size w w2:=((Below.refl _ _).alloc (Zj _) _).grown hg2 (by simp) (fun q hq=>by have h0:some w.heap.size=some q:=hq;injection h0 with h0;omega);have HX2:=Za hown2;have HB2:=Za hb2;clear hown2 hg2 hat2 hb2))
    go_ret;exact ⟨Ax,cx,rfl,HX2.out,HB2.out⟩
theorem sorted_any (A:Option Addr) (n c:Nat) (X:List Ent) (hmax:n≤1000000) (w:World) (h:Lies ecs 5 w A X) (hn:X.length=n):
    Calls Tryz.prog 92 #[.slice A n c,.func (.func 93) #[] #[]] w fun e w'=>∃ A' c' X',e=.returned (.slice A' n c')∧w'.ownsRow w.heap.size 61 5 (.slice A' n c') n (X'.flatMap ecs)∧Ord Ent.ck X'∧SameK Ent.ck X X'∧Below w.heap.size w w':=by
  have hmf:∀ (fn:Fn) (first cap:Array Value) (w:World),(Instr.makeFunc fn first cap).run Tryz.prog w=.ok (.func fn first cap) w:=fun _ _ _ _=>rfl;have H:=Za h;have HM:=Za (And.intro hmax hn);clear h hmax hn;go_enter Tryz.func92,Tryz.ntmps92
  go_wp2_with (first
    | (refine step_box1 rfl 155 _ rfl (.func (.func 93) #[] #[]) rfl rfl ?_;intro gk w2 hr2 hg2 hb2;have HC:=Za (p:=w2.cell? ⟨gk,0,none⟩=some (.func (.func 93) #[] #[])) ((hr2.cell 0).trans rfl)
       have HL:=Za (And.intro hr2.lt hg2.out);have HB:=Za hb2;clear hr2 hg2 hb2)
    | (go_at_call 119;refine (clone_any A n c X HM.out.1 _ (H.out.below HB.out) HM.out.2).mono ?_;rintro e w3 ⟨A2,c2,rfl,ho,hb⟩;have HO:=Za ho
       have HB3:=Za hb;clear ho hb)
    | (go_at_call 120;refine (sort_any w2.heap.size gk n c2 A2 X HM.out.1 _ ((HB3.out.cell (p:=⟨gk,0,none⟩) HL.out.1).trans HC.out) HL.out.1 HB3.out.size HO.out).mono ?_;rintro e w4 ⟨rfl,X',ho,hord,hs,hb⟩;have HO4:=Za (And.intro ho (And.intro hord hs))
       have HB4:=Za (HB3.out.trans hb);clear ho hord hs hb))
  go_ret;exact ⟨A2,c2,X',rfl,own_lower HO4.out.1 HB.out.size,HO4.out.2.1,HO4.out.2.2,below_nxt HB4.out HB.out⟩
theorem bycookies_any (A:Option Addr) (n c:Nat) (X:List Ent) (hmax:n≤1000000) (w:World) (h:Lies ecs 5 w A X) (hn:X.length=n):
    Calls Tryz.prog 57 #[.slice A n c] w fun e w'=>∃ A' c' X',e=.returned (.slice A' n c')∧w'.ownsRow w.heap.size 61 5 (.slice A' n c') n (X'.flatMap ecs)∧Ord Ent.ck X'∧SameK Ent.ck X X'∧Below w.heap.size w w':=by
  have HS:=Za (sorted_any A n c X hmax w h hn);clear h hmax hn;go_enter Tryz.func57,Tryz.ntmps57
  go_wp2_with (go_at_call 92;refine HS.out.mono ?_;rintro e w4 ⟨A2,c2,X',rfl,ho,hord,hs,hb⟩;have HO4:=Za (And.intro ho (And.intro hord (And.intro hs hb)))
               clear ho hord hs hb)
  go_ret;exact ⟨A2,c2,X',rfl,HO4.out⟩
/- Entries kept:those behind a cookie,those of other names. Conditions:the closure's variable lies there;the row is no longer than a million. -/
theorem foldl_setsD (off:Nat):∀ (vs:List Value) (k:Nat) (L:List Value),(vs.zipIdx k).foldl (fun (cs:Array Value) (x:Value × Nat)=>cs.setIfInBounds (off+x.2) x.1) L.toArray=(setLD L (off+k) vs).toArray
  | [],_,_=>rfl
  | v::r,k,L=>by
    rw [List.zipIdx_cons,List.foldl_cons];simp only [Zb];rw [foldl_setsD off r (k+1) (L.set (off+k) v)];rfl
theorem fill_partD {place:Nat→Option (Nat × Nat)} {A old B vs:List Value} {i off n:Nat} {v:Value} {rest:List (Nat × Value)} (hp:place i=some (off,n)) (hv:v.cells=vs.toArray) (hn:vs.length=n) (hA:A.length=off) (ho:old.length=n):
    Instr.fill place (A++(old++B)).toArray ((i,v)::rest)=Instr.fill place (A++(vs++B)).toArray rest:=by
  subst hA hn;rw [Instr.fill,hp];simp only [hv];rw [if_neg (by simp;omega)];have h:=foldl_setsD A.length vs 0 (A++(old++B));rw [Nat.add_zero,setL_midD B vs old A ho] at h;rw [← h];simp
theorem size_ofD {P:Program} {t:TypeId} {n:Nat} (h:(P.info? t).map (·.size)=some n) (w:World):(sizeOf t).run P w=.ok n w:=by
  cases hq:P.info? t with
  | none=>simp [hq] at h
  | some i=>
    have hi:i.size=n:=by simpa [hq] using h
    simp [sizeOf,typeInfo,hq,hi]
section
variable {P:Program} {ops:Array Oper} {rest:List Oper} {o:Oper} {a:Act} {w:World} {Q:Exit→Act→World→Prop}
theorem run_bs1D (t e : TypeId) (hu :P.underlying t=some (.slice e)) (k:Nat) (hs:(P.info? e).map (·.size)=some k) (hk:0<k∧k≤1000) (z:Value) (hz:∀ w,(zeroValue e).run P w=.ok z w) (cs:List Value) (hcs:cs.length=k) (w:World):
    (Instr.buildSlice t 1 #[(0,.agg cs.toArray)]).run P w=.ok (.slice (some ⟨w.heap.size,0,none⟩) 1 1) (w.alloc (.cells cs.toArray e)):=by
  have hfill:∀ zs:Array Value,zs.size=k→Instr.fill (fun i=>some (i*k,k)) zs [(0,.agg cs.toArray)]=some cs.toArray:=fun zs hzs=>by
    have h:=fill_partD (place:=fun i=>some (i*k,k)) (A:=[]) (old:=zs.toList) (B:=[]) (vs:=cs) (i:=0) (off:=0) (n:=k) (v:=.agg cs.toArray) (rest:=[]) (by simp) rfl hcs rfl (by simpa using hzs);simp only [Zy,Zt,Array.toArray_toList] at h;rw [h];rfl
  cases hq:P.info? e with
  | none=>simp [hq] at hs
  | some i=>
    have hi:i.size=k:=by simpa [hq] using hs
    have h1 : ¬ (2 ^ 24 < k) := by have:(1000:Nat)<2 ^ 24:=by decide
                                   omega
    have h2:¬ k=0:=by omega
    have hf:=hfill ((Array.range k).map (z.cells[· % z.cells.size]!)) (by simp);have hsz:∀ w:World,(sizeOf e).run P w=.ok k w:=size_ofD hs;clear hq hi;unfold Instr.buildSlice;simp only [Sem.run_bind,run_underlying hu,Zw,hsz,Nat.one_mul,gt_iff_lt,h1,if_false,h2,Sem.run_pure,hz,Sem.run_ite];rw [hf];simp [newRow,go_sem]
theorem step_bs1D (hgd:o.guard=none) (t e:TypeId) (x:Operand) (ho:o.op=.buildSlice t 1 #[(0,x)]) (hu:P.underlying t=some (.slice e)) (k:Nat) (hs:(P.info? e).map (·.size)=some k) (hk:0<k∧k≤1000) (z:Value) (hz:∀ w,(zeroValue e).run P w=.ok z w) (cs:List Value) (hcs:cs.length=k) (hx:a.eval x=.agg cs.toArray)
    (h:∀ g w',Row w' g e cs→Hid (g=w.heap.size)→Below w.heap.size w w'→wpList P ops Q rest (a.put o.dst (.slice (some ⟨g,0,none⟩) 1 1)) w'):wpList P ops Q (o::rest) a w:=by
  refine wpList_plain hgd fun K hK=>?_;have hr:=run_bs1D t e hu k hs hk z hz cs hcs w;unfold Oper.wp execOp;simp only [ho,hx,List.map_toArray,List.map_cons,List.map_nil,Sem.run_bind,hr,Zw];exact hK _ _ (h _ _ (Row.made w e cs) (show _=_ from rfl) ((Below.refl _ _).alloc (Zj _) _))
end
theorem filter_snoc {p:Ent→Bool} {X:List Ent} {k:Nat} {x:Ent} (hx:X[k]?=some x):(X.take (k+1)).filter p=(X.take k).filter p++(if p x then [x] else []):=by
  rw [List.take_add_one,hx,List.filter_append];congr 1;cases h:p x <;> simp [h]
theorem kept_told (g:Nat) (after:Nat) (A:Option Addr) (n c:Nat) (X:List Ent) (hmax:n≤1000000) (w:World) (h:Lies ecs 5 w A X) (hn:X.length=n) (hg:w.cell? ⟨g,0,none⟩=some (.int .u32 (after:Int))):
    Calls Tryz.prog 58 #[.slice A n c,.func (.func 59) #[] #[.pointer (some ⟨g,0,none⟩)]] w fun e w'=>∃ A' m c',e=.returned (.slice A' m c')∧w'.ownsRow w.heap.size 61 5 (.slice A' m c') m ((X.filter (fun e:Ent=>decide (after<e.ck))).flatMap ecs)∧m≤n∧Below w.heap.size w w':=by
  obtain ⟨p,hp⟩:∃ p:Ent→Bool,(fun e:Ent=>decide (after<e.ck))=p:=⟨_,rfl⟩
  have HCALL:=Za (p:=∀ (x:Ent) (W:World),Below w.heap.size w W→Calls Tryz.prog 59 #[.agg (ecs x).toArray,.pointer (some ⟨g,0,none⟩)] W fun e W'=>e=.returned (.bool (p x))∧Below W.heap.size W W') (fun x W hb=>by
    rw [← hp];exact behind_any x g after W ((hb.cell (p:=⟨g,0,none⟩) (Ya w _ hg)).trans hg))
  rw [hp];have H:=Za h;have HN:=Za (And.intro hmax hn);clear h hmax hn hp hg;go_enter Tryz.func58,Tryz.ntmps58;go_wp2;go_loopw [5,10] (fun x y wr=>∃ (k:Nat) (A':Option Addr) (m c':Nat),Hid (k≤n)∧y=.int .i64 (k:Int)∧x=.slice A' m c'∧Hid (m≤k)∧Hid (wr.ownsRow w.heap.size 61 5 (.slice A' m c') m (((X.take k).filter p).flatMap ecs))∧Hid (Below w.heap.size w wr)) (fun _ y _=>n - (intOf y).toNat)
  case atStart=>exact ⟨0,none,0,0,Za (Nat.zero_le _),rfl,rfl,Za (Nat.zero_le _),Za (Ye _ _ _ _),Za (Below.refl _ _)⟩
  case round =>
    obtain ⟨k,A',m,c',HKL,rfl,rfl,HM,HO,HB⟩:=hrel
    rename World=>wr;by_cases hk:k<n
    · have hki:(k:Int)<(n:Int):=by omega
      have hkw:IntKind.i64.wrap ((k:Int)+1)=(k:Int)+1:=by rw [Zg];have:=HN.out;omega
      have hkx:k<X.length:=by have:=HN.out;omega
      obtain ⟨g0,o0,rfl,hc⟩:=(H.out.below HB.out).at_ hkx
      obtain ⟨x,hx⟩:∃ x,X[k]=x:=⟨_,rfl⟩;rw [hx] at hc;have HX:=Za (p:=X[k]?=some x) (by rw [Zh hkx,hx]);have HR:=Za (p:=wr.rangeAt g0 (o0+k*5) (ecs x)) (fun i u hu=>hc i u hu);have HK:=Za hk;clear hc hx hkx hk;obtain ⟨z,hz⟩:∃ z,p x=z:=⟨_,rfl⟩;have HZ:=Za hz;cases z
      · clear hz
        go_wp2_with (first
          | (refine wpList_load_mid rfl 61 (.tmp 12) rfl g0 (o0+k*5) rfl (ecs x) _ HR.out Yi rfl (info_ent x) ?_)
          | (refine step_alloc rfl 7 rfl 61 rfl (ecs ent0) zero_ent ?_;intro g7 w2 hr2 hg2 hb2 hs2;have HR2:=Za hr2
             have HB2:=Za hb2;have HG2:=hg2;clear hr2 hg2 hb2 hs2)
          | (refine step_store rfl 61 _ _ rfl g7 rfl 61 (ecs ent0) (ecs x) rfl HR2.out rfl (info_ent x) (ecs_one x) ?_;intro w3 hr3 hg3 hs3;have HR3:=Za hr3
             have HB3:=Za (HB2.out.grown hg3 HB2.out.size (fun q hq=>by injection hq with hq;subst hq;exact Nat.le_of_eq HG2.out.symm));clear hr3 hg3 hs3)
          | (refine step_load rfl 15 rfl 61 (.tmp 7) rfl g7 rfl (ecs x) _ HR3.out.all Yi rfl (info_ent x) ?_)
          | (go_at_call 59;refine (HCALL.out x _ (below_nxt HB3.out HB.out)).mono ?_;rintro e w4 ⟨rfl,hb⟩;have HB4:=Za (below_nxt hb HB3.out)
             have HR4:=Za (HR3.out.kept hb);rw [HZ.out];clear hb))
        go_roundw
        case rel=>exact ⟨k+1,A',m,c',Za HK.out,by go_num,rfl,Za (by have:=HM.out;omega),Za (by rw [filter_snoc HX.out,HZ.out,if_neg Bool.false_ne_true,Zy];exact own_kept HO.out HB4.out),Za (below_nxt HB4.out HB.out)⟩
        case measure=>have:=HK.out;simp [intOf];omega
      · clear hz
        go_wp2_with (first
          | (refine wpList_load_mid rfl 61 (.tmp 12) rfl g0 (o0+k*5) rfl (ecs x) _ HR.out Yi rfl (info_ent x) ?_)
          | (refine step_alloc rfl 7 rfl 61 rfl (ecs ent0) zero_ent ?_;intro g7 w2 hr2 hg2 hb2 hs2;have HR2:=Za hr2
             have HB2:=Za hb2;have HG2:=hg2;clear hr2 hg2 hb2 hs2)
          | (refine step_store rfl 61 _ _ rfl g7 rfl 61 (ecs ent0) (ecs x) rfl HR2.out rfl (info_ent x) (ecs_one x) ?_;intro w3 hr3 hg3 hs3;have HR3:=Za hr3
             have HB3:=Za (HB2.out.grown hg3 HB2.out.size (fun q hq=>by injection hq with hq;subst hq;exact Nat.le_of_eq HG2.out.symm));clear hr3 hg3 hs3)
          | (refine step_load rfl 15 rfl 61 (.tmp 7) rfl g7 rfl (ecs x) _ HR3.out.all Yi rfl (info_ent x) ?_)
          | (go_at_call 59;refine (HCALL.out x _ (below_nxt HB3.out HB.out)).mono ?_;rintro e w4 ⟨rfl,hb⟩;have HB4:=Za (below_nxt hb HB3.out)
             have HR4:=Za (HR3.out.kept hb);rw [HZ.out];clear hb)
          | (refine step_load rfl 18 rfl 61 (.tmp 7) rfl g7 rfl (ecs x) _ HR4.out.all Yi rfl (info_ent x) ?_)
          | (refine step_bs1D rfl 46 61 _ rfl Tryz.underlying46 5 (info_ent x) (by decide) _ zero_ent (ecs x) rfl rfl ?_;intro g8 w8 hr8 hg8 hb8;have HR8:=Za hr8
             have HB8:=Za (below_nxt hb8 HB4.out);clear hr8 hg8 hb8)
          | (at_builtin
             have HOW:=Za (own_kept HO.out HB8.out);refine wp_join rfl _ _ rfl rec_ent w.heap.size (.slice A' m c') m (((X.take k).filter p).flatMap ecs) rfl HOW.out (some ⟨g8,0,none⟩) 1 1 (ecs x) rfl rfl (.inr ⟨_,rfl,fun j u hu=>by rw [Addr.add_lit];exact HR8.out.all j u hu⟩) (ecs_one x) (by have:=HM.out;have:=HN.out;have:=HK.out;omega) (by have:=HB.out.size;have:=HB8.out.size;omega) ?_;intro v1 w5 ho1 hg1 hat1;obtain ⟨A1,c1',rfl⟩:=own_sl ho1;have HO2:=Za ho1;have HB5:=Za ((below_nxt HB8.out HB.out).grown hg1 (by have:=HB.out.size;have:=HB8.out.size;omega) (fun k hk=>(HOW.out.lt k hk).1));clear ho1 hg1 hat1))
        go_roundw
        case rel=>exact ⟨k+1,A1,m+1,c1',Za HK.out,by go_num,rfl,Za (by have:=HM.out;omega),Za (by rw [filter_snoc HX.out,HZ.out,if_pos rfl,flat_snoc];exact HO2.out),HB5⟩
        case measure=>have:=HK.out;simp [intOf];omega
    · have hke:k=n:=by have:=HKL.out;omega
      have hki:¬ (k:Int)<(n:Int):=by omega
      have HKE:=Za hke;clear hk hke;go_wp2;go_ret;refine ⟨A',m,c',rfl,?_,by have:=HM.out;have:=HKE.out;omega,HB.out⟩;have h1:=HO.out;rw [Zz (by rw [HN.out.2,HKE.out];exact Zj _)] at h1;exact h1
/- What a directory tells:the entries behind a cookie,in order,as many as there is room for. Conditions:no more than a million,names no longer than 2^32. -/
def fit:Int→List Ent→Nat
  | _,[]=>0
  | r,e::t=>if r<24+(e.nm.size:Int) then 0 else fit (r - (24+(e.nm.size:Int))) t+1
theorem fit_no {r:Int} {L:List Ent} {k:Nat} {x:Ent} (hx:L[k]?=some x) (h:r<24+(x.nm.size:Int)):fit r (L.drop k)=0:=by
  obtain ⟨hk,hy⟩:=Zn.1 hx;rw [List.drop_eq_getElem_cons hk,hy];unfold fit;rw [if_pos h]
theorem fit_yes {r:Int} {L:List Ent} {k:Nat} {x:Ent} (hx:L[k]?=some x) (h:¬ r<24+(x.nm.size:Int)):fit r (L.drop k)=fit (r - (24+(x.nm.size:Int))) (L.drop (k+1))+1:=by
  obtain ⟨hk,hy⟩:=Zn.1 hx;rw [List.drop_eq_getElem_cons hk,hy]
  conv=>lhs;unfold fit
  rw [if_neg h]
theorem fit_nil (r:Int):fit r []=0:=by unfold fit;rfl
theorem own_front {w:World} {b n c k:Nat} {A:Option Addr} {xs:List Ent} (h:w.ownsRow b 61 5 (.slice A n c) n (xs.flatMap ecs)) (hk:k≤n):w.ownsRow b 61 5 (.slice A k c) k ((xs.take k).flatMap ecs):=by
  have hl:=h.1;rw [flat_len ecs_len] at hl;have hx:xs.length=n:=by omega
  have e1:((xs.take k).flatMap ecs).length=k*5:=by rw [flat_len ecs_len,Zu];omega
  have e2:xs.flatMap ecs=(xs.take k).flatMap ecs++(xs.drop k).flatMap ecs:=by rw [← List.flatMap_append,List.take_append_drop]
  refine ⟨e1,?_⟩;rcases h.2 with ⟨h1,h2⟩ | ⟨g,cap,cur,h1,hb,hg,hn,hc,hs,ht⟩
  · simp only [Value.slice.injEq] at h1;obtain ⟨rfl,_,rfl⟩:=h1;have h0:k=0:=by omega
    subst h0;exact .inl ⟨rfl,rfl⟩
  · simp only [Value.slice.injEq] at h1;obtain ⟨rfl,_,rfl⟩:=h1;refine .inr ⟨g,c,cur,rfl,hb,hg,by omega,hc,hs,?_⟩
    have h3:(cur.toList.take (n*5)).take (k*5)=cur.toList.take (k*5):=by
      rw [List.take_take];congr 1;have:=Nat.mul_le_mul_right 5 hk;omega
    rw [← h3,ht,e2, ← e1];exact List.take_left' rfl
theorem told_anyD (A:Option Addr) (n c after:Nat) (room:Int) (X:List Ent) (hmax:n≤1000000) (w:World) (h:Lies ecs 5 w A X) (hn:X.length=n) (hnm:∀ e ∈ X,e.nm.size≤4294967296) (hlo: -9223372036854775808≤room) (hhi:room≤9223372036854775807):
    Calls Tryz.prog 23 #[.slice A n c,.int .u32 (after:Int),.int .i64 room] w fun e w'=>∃ A' c' k L,e=.returned (.slice A' k c')∧w'.ownsRow w.heap.size 61 5 (.slice A' k c') k ((L.take k).flatMap ecs)∧k=fit room L∧Ord Ent.ck L∧SameK Ent.ck (X.filter (fun e:Ent=>decide (after<e.ck))) L∧Below w.heap.size w w':=by
  have hmf:∀ (fn:Fn) (first cap:Array Value) (w:World),(Instr.makeFunc fn first cap).run Tryz.prog w=.ok (.func fn first cap) w:=fun _ _ _ _=>rfl;have H:=Za h;have HN:=Za (And.intro hmax hn);have HNM:=Za hnm;have HRM:=Za (And.intro hlo hhi);clear h hmax hn hnm hlo hhi;go_enter Tryz.func23,Tryz.ntmps23
  go_wp2_with (first
    | (refine step_box1 rfl 40 _ rfl (.int .u32 (after:Int)) rfl rfl ?_;intro g2 w2 hr2 hg2 hb2;have HC:=Za (p:=w2.cell? ⟨g2,0,none⟩=some (.int .u32 (after:Int))) ((hr2.cell 0).trans rfl)
       have HB:=Za hb2;clear hr2 hg2 hb2)
    | (go_at_call 58;refine (kept_told g2 after A n c X HN.out.1 _ (H.out.below HB.out) HN.out.2 HC.out).mono ?_;rintro e w3 ⟨A3,m,c3,rfl,ho,hm,hb⟩;have HO3:=Za ho
       have HM3:=Za hm;have HB3:=Za (below_nxt hb HB.out);clear ho hm hb)
    | (go_at_call 57;refine (bycookies_any A3 m c3 (X.filter (fun e:Ent=>decide (after<e.ck))) (by have:=HM3.out;have:=HN.out;omega) _ (Lies.own (by decide) ecs_len HO3.out) (by have h1:=HO3.out.1;rw [flat_len ecs_len] at h1;omega)).mono ?_;rintro e w4 ⟨A4,c4,L,rfl,ho,hord,hs,hb⟩;have HO4:=Za (own_lower ho HB3.out.size)
       have HL4:=Za (And.intro hord hs);have HB4:=Za (below_nxt hb HB3.out);have HLL:=Za (p:=L.length=m) (by have h1:=ho.1;rw [flat_len ecs_len] at h1;omega);clear ho hord hs hb))
  go_loopw [2,17] (fun x y wr=>∃ (k:Nat) (r:Int),y=.int .i64 (k:Int)∧x=.int .i64 r∧Hid (k≤m∧fit room L=k+fit r (L.drop k))∧Hid (-9223372036854775808≤r∧r≤9223372036854775807)∧Hid (Below w4.heap.size w4 wr)) (fun _ y _=>m - (intOf y).toNat)
  case atStart=>exact ⟨0,room,rfl,rfl,Za ⟨Nat.zero_le _,by simp⟩,HRM,Za (Below.refl _ _)⟩
  case round =>
    obtain ⟨k,r,rfl,rfl,HK,HR,HBR⟩:=hrel
    rename World=>wr;by_cases hk:k<m
    · have hki:(k:Int)<(m:Int):=by omega
      have hkw:IntKind.i64.wrap ((k:Int)+1)=(k:Int)+1:=by rw [Zg];have:=HN.out;have:=HM3.out;omega
      have hkx:k<L.length:=by have:=HLL.out;omega
      rcases own_er HO4.out with ⟨_,h0,_⟩ | ⟨g4,Z,rfl,_,hr4,_⟩
      · omega
      obtain ⟨x,hx⟩:∃ x,L[k]?=some x:=⟨_,Zh hkx⟩;have HX:=Za hx;have HAT:=Za ((hr4.kept HBR.out).at_ hx);have hsz:x.nm.size≤4294967296:=HNM.out x (List.mem_filter.1 ((HL4.out.2.mem x).1 (Zx hx))).1;obtain ⟨s,hs⟩:∃ s:Nat,x.nm.size=s:=⟨_,rfl⟩;have hsw:IntKind.i64.wrap (24+(s:Int))=24+(s:Int):=by rw [Zg];omega
      have HS:=Za (And.intro hs (show s≤4294967296 by omega));have HKK:=Za hk;clear hk hkx hr4 hx hsz;by_cases hf:r<24+(s:Int)
      · have HF:=Za hf
        have hcap:(k:Int)≤(c4:Int):=by
          rcases HO4.out.2 with ⟨h1,_⟩ | ⟨g,cap,cur,h1,_,_,hn,_⟩
          · cases h1
          · simp only [Value.slice.injEq] at h1;have:=HKK.out;omega
        go_wp2_with (first
          | (refine wpList_load_mid rfl 61 (.tmp 20) rfl g4 (k*5) rfl (ecs x) _ HAT.out Yi rfl (info_ent x) ?_)
          | (refine step_alloc rfl 9 rfl 61 rfl (ecs ent0) zero_ent ?_;intro g9 w2 hr2 hg2 hb2 hs2;have HR2:=Za hr2
             have HB2:=Za hb2;have HG2:=hg2;clear hr2 hg2 hb2 hs2)
          | (refine step_store rfl 61 _ _ rfl g9 rfl 61 (ecs ent0) (ecs x) rfl HR2.out rfl (info_ent x) (ecs_one x) ?_;intro w3 hr3 hg3 hs3;have c0:w3.cell? ⟨g9,0,none⟩=some (.string x.nm):=(hr3.cell 0).trans rfl
             have HB5:=Za (HB2.out.grown hg3 HB2.out.size (fun q hq=>by injection hq with hq;subst hq;exact Nat.le_of_eq HG2.out.symm));clear hr3 hg3 hs3))
        go_ret;have e1:k=fit room L:=by have h1:=HK.out.2;rw [fit_no HX.out (by rw [HS.out.1];exact HF.out)] at h1;omega
        exact ⟨_,_,k,L,rfl,own_kept (own_front HO4.out (Nat.le_of_lt HKK.out)) (below_nxt HB5.out HBR.out),e1,HL4.out.1,HL4.out.2,below_nxt (below_nxt HB5.out HBR.out) HB4.out⟩
      · have HF:=Za hf;obtain ⟨r2,hr2⟩:∃ r2:Int,r - (24+(s:Int))=r2:=⟨_,rfl⟩;have hrw:IntKind.i64.wrap (r - (24+(s:Int)))=r2:=by rw [Zg];have:=HR.out;have:=HS.out;omega
        have HR2X:=Za hr2;clear hr2
        go_wp2_with (first
          | (refine wpList_load_mid rfl 61 (.tmp 20) rfl g4 (k*5) rfl (ecs x) _ HAT.out Yi rfl (info_ent x) ?_)
          | (refine step_alloc rfl 9 rfl 61 rfl (ecs ent0) zero_ent ?_;intro g9 w2 hr2 hg2 hb2 hs2;have HR2:=Za hr2
             have HB2:=Za hb2;have HG2:=hg2;clear hr2 hg2 hb2 hs2)
          | (refine step_store rfl 61 _ _ rfl g9 rfl 61 (ecs ent0) (ecs x) rfl HR2.out rfl (info_ent x) (ecs_one x) ?_;intro w3 hr3 hg3 hs3;have c0:w3.cell? ⟨g9,0,none⟩=some (.string x.nm):=(hr3.cell 0).trans rfl
             have HB5:=Za (HB2.out.grown hg3 HB2.out.size (fun q hq=>by injection hq with hq;subst hq;exact Nat.le_of_eq HG2.out.symm));clear hr3 hg3 hs3))
        go_roundw
        case rel=>
          refine ⟨k+1,r2,by go_num,rfl,Za ⟨HKK.out,?_⟩,Za (by have:=HR.out;have:=HR2X.out;have:=HF.out;omega),Za (below_nxt HB5.out HBR.out)⟩;have h1:=HK.out.2;rw [fit_yes HX.out (by rw [HS.out.1];exact HF.out),HS.out.1,HR2X.out] at h1;omega
        case measure=>have:=HKK.out;simp [intOf];omega
    · have hke:k=m:=by have:=HK.out;omega
      have hki:¬ (k:Int)<(m:Int):=by omega
      have HKE:=Za hke;clear hk hke;go_wp2;go_ret
      have e1:m=fit room L:=by
        have h1:=HK.out.2;rw [List.drop_of_length_le (by rw [HLL.out,HKE.out];exact Zj _)] at h1;rw [fit_nil] at h1;have:=HKE.out;omega
      exact ⟨A4,c4,m,rfl,L,own_kept (own_front HO4.out (Zj _)) HBR.out,e1,HL4.out.1,HL4.out.2,below_nxt HBR.out HB4.out⟩
end Go.Proofs.YtijffkklhgnknaaGreatDoor
