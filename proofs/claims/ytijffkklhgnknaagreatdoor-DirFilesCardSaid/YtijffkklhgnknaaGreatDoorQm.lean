/- symMerge: two neighbouring runs that are in order, made one, those of one key as they stood. Conditions: neither is empty, the closure's key lies there. -/
import Derived.Test.YtijffkklhgnknaaGreatDoorAz
import Derived.Test.YtijffkklhgnknaaGreatDoorQl
set_option maxHeartbeats 20000000
set_option linter.unusedVariables false
set_option maxRecDepth 20000
namespace Go.Proofs.YtijffkklhgnknaaGreatDoor
open Go.RowKit
def Merges (gr gk n cp:Nat) (Z:List Value) (a m b:Nat):Prop:=∀ (P X Y S:List Ent) (w:World),P.length=a→a+X.length=m→m+Y.length=b→b+S.length=n→0<X.length→0<Y.length→Ord Ent.ck X→Ord Ent.ck Y→w.cell? ⟨gk,0,none⟩=some (.func (.func 93) #[] #[])→gk≠gr→
  ER w gr (P++(X++(Y++S))) Z→Calls Tryz.prog 145 #[.slice (some ⟨gr,0,none⟩) n cp,.int .i64 (a:Int),.int .i64 (m:Int),.int .i64 (b:Int),.func (.func 121) #[] #[.pointer (some ⟨gk,0,none⟩)]] w (Mgd w gr P X Y S Z)
theorem mg_whole {X1 X2 Y1 Y2 M1 M2:List Ent} (hX:Ord Ent.ck (X1++X2)) (hY:Ord Ent.ck (Y1++Y2)) (hlo:∀ y ∈ Y1,∀ x ∈ X2,y.ck<x.ck) (hhi:∀ x ∈ X1,∀ y ∈ Y2,x.ck≤y.ck) (h1:Ord Ent.ck M1) (h2:Ord Ent.ck M2) (s1:SameK Ent.ck (X1++Y1) M1) (s2:SameK Ent.ck (X2++Y2) M2):Ord Ent.ck (M1++M2)∧SameK Ent.ck ((X1++X2)++(Y1++Y2)) (M1++M2):=by
  refine ⟨h1.app h2 (fun u hu v hv=>?_),?_⟩
  · rcases List.mem_append.1 ((s1.mem u).1 hu) with hu | hu <;> rcases List.mem_append.1 ((s2.mem v).1 hv) with hv | hv
    · exact hX.across u hu v hv
    · exact hhi u hu v hv
    · exact Nat.le_of_lt (hlo u hu v hv)
    · exact hY.across u hu v hv
  · have h3:SameK Ent.ck (X2++Y1) (Y1++X2):=SameK.swap (fun x hx y hy h=>by have:=hlo y hy x hx;omega);have h4:SameK Ent.ck (X1++((X2++Y1)++Y2)) (X1++((Y1++X2)++Y2)):=(SameK.refl X1).app (h3.app (SameK.refl Y2));have h5:=s1.app s2;have e1:(X1++X2)++(Y1++Y2)=X1++((X2++Y1)++Y2):=by simp only [Zi]
    have e2:X1++Y1++(X2++Y2)=X1++((Y1++X2)++Y2):=by simp only [Zi]
    rw [e1];rw [e2] at h5;exact h4.trans h5
theorem merges_step (gr gk n cp:Nat) (Z:List Value) (hmax:n≤1000000) (a m b:Nat) (ih:∀ a' m' b',b' - a'<b - a→Merges gr gk n cp Z a' m' b'):Merges gr gk n cp Z a m b:=by
  intro P X Y S w hP hX hY hn hx0 hy0 hox hoy hk hkr h;by_cases hx1:X.length=1
  · obtain ⟨x,rfl⟩:∃ x,X=[x]:=List.length_eq_one_iff.1 hx1;exact symmerge_one gr gk n cp a m b P Y S x Z hP hX hY hn hmax hoy w hk hkr h
  by_cases hy1:Y.length=1
  · obtain ⟨y,rfl⟩:∃ y,Y=[y]:=List.length_eq_one_iff.1 hy1;exact symmerge_right gr gk n cp a m b P X S y Z hP hX (by omega) hY hn hmax hox w hk hkr h
  have H:=Za h;have HK:=Za (And.intro hk hkr);have HX:=Za (p:=P.length=a∧a+X.length=m∧m+Y.length=b∧b+S.length=n∧n≤1000000∧2≤X.length∧2≤Y.length) ⟨hP,hX,hY,hn,hmax,by omega,by omega⟩;have HO:=Za (And.intro hox hoy);have IH:=Za ih;obtain ⟨cur,hcur⟩:∃ cur,P++(X++(Y++S))=cur:=⟨_,rfl⟩;have HGX:=Za (p:=∀ c,a≤c→c<m→cur[c]?=X[c - a]?) (fun c h1 h2=>by rw [← hcur,Zm (by omega),hP,Zv (by omega)]);have HGY:=Za (p:=∀ c,m≤c→c<b→cur[c]?=Y[c - m]?) (fun c h1 h2=>by rw [← hcur,Zm (by omega),hP,Zm (by omega),show c - a - X.length=c - m by omega,Zv (by omega)]);have HCUR:=Za hcur;rw [hcur] at H;obtain ⟨xl,hxl⟩:∃ xl,m - a=xl:=⟨_,rfl⟩;obtain ⟨yl,hyl⟩:∃ yl,b - m=yl:=⟨_,rfl⟩;have hw1:IntKind.i64.wrap ((m:Int) - (a:Int))=(xl:Int):=by rw [Zg];omega
  have hw2:IntKind.i64.wrap ((b:Int) - (m:Int))=(yl:Int):=by rw [Zg];omega
  have hxb:((xl:Int)==1)=false:=beq_false_of_ne (by omega);have hxn:¬ (xl:Int)=1:=by omega
  have hyb:((yl:Int)==1)=false:=beq_false_of_ne (by omega);have hyn:¬ (yl:Int)=1:=by omega
  obtain ⟨mid,hmid⟩:∃ mid,(a+b) / 2=mid:=⟨_,rfl⟩;obtain ⟨v1,v2,v3,v4,v5⟩:=half_ a b mid hmid (by omega);obtain ⟨ab,hab⟩:∃ ab,a+b=ab:=⟨_,rfl⟩;rw [hab] at v1 v2 v3;obtain ⟨nn,hnn⟩:∃ nn,mid+m=nn:=⟨_,rfl⟩;have hnw:IntKind.i64.wrap ((mid:Int)+(m:Int))=(nn:Int):=by rw [Zg];omega
  obtain ⟨pp,hpp⟩:∃ pp,nn - 1=pp:=⟨_,rfl⟩;have hpw:IntKind.i64.wrap ((nn:Int) - 1)=(pp:Int):=by rw [Zg];omega
  have HM:=Za (p:=(a+b) / 2=mid∧mid+m=nn∧nn - 1=pp) ⟨hmid,hnn,hpp⟩;clear h hk hkr hP hX hY hn hmax hox hoy hcur ih hx1 hy1 hx0 hy0 hxl hyl hmid hab hnn hpp;by_cases hmm:mid<m
  · have hmmi : (mid :Int)<(m:Int):=by omega
    obtain ⟨lo,hlo⟩:∃ lo,nn - b=lo:=⟨_,rfl⟩;have hlw:IntKind.i64.wrap ((nn:Int) - (b:Int))=(lo:Int):=by rw [Zg];have:=HM.out;have:=HX.out;omega
    obtain ⟨hi,hhi⟩:∃ hi,mid=hi:=⟨_,rfl⟩;have HLH:=Za (p:=lo+b=nn∧hi=mid∧mid<m) (by have:=HM.out;have:=HX.out;omega)
    have HDOM:=Za (p:=lo≤hi∧hi≤m∧hi≤mid∧a≤lo∧∀ c,lo≤c→c<hi→a≤c∧c<m∧m≤pp - c∧pp - c<b∧c≤pp) (by
      have h1:=HM.out;have h2:=HX.out;have h3:=HLH.out;refine ⟨by omega,by omega,by omega,by omega,fun c h4 h5=>?_⟩;refine ⟨?_,?_,?_,?_,?_⟩ <;> omega)
    have HEND:=Za (p:=(∀ s,lo≤s→s≤hi→m≤nn - s∧nn - s≤b)∧(∀ s,s≤hi→s<m→m<nn - s→s<hi)∧(∀ s,lo≤s→a<s→nn - s<b→lo<s)) (by
      have h1:=HM.out;have h2:=HX.out;have h3:=HLH.out;refine ⟨fun s h4 h5=>?_,fun s h4 h5 h6=>?_,fun s h4 h5 h6=>?_⟩ <;> omega)
    have hlo2:=hlo;clear hmm hlo;subst hhi;go_enter Tryz.func145,Tryz.ntmps145;go_wp2;go_loopw [20,21] (fun u v wr=>∃ s r:Nat,u=.int .i64 (s:Int)∧v=.int .i64 (r:Int)∧Hid (lo≤s∧s≤r∧r≤mid)∧Hid ((∀ c x y,lo≤c→c<s→cur[c]?=some x→cur[pp - c]?=some y→x.ck≤y.ck)∧∀ c x y,r≤c→c<mid→cur[c]?=some x→cur[pp - c]?=some y→y.ck<x.ck)∧Hid (ER wr gr cur Z)∧Hid (Chg [gr] w wr)) (fun u v _=>(intOf v).toNat - (intOf u).toNat)
    case atStart=>exact ⟨lo,mid,rfl,rfl,Za ⟨Zj _,HDOM.out.1,Zj _⟩,Za ⟨fun c x y h1 h2=>absurd h1 (by omega),fun c x y h1 h2=>absurd h1 (by omega)⟩,H,Za (Chg.refl _ _)⟩
    case round =>
      clear H;obtain ⟨s,r,rfl,rfl,HI,HB,HR,HC⟩:=hrel
      rename World=>wo;by_cases hij:s<r
      · have hiji:(s:Int)<(r:Int):=by omega
        obtain ⟨c,hce⟩:∃ c,(s+r) / 2=c:=⟨_,rfl⟩;have HH:=Za (p:=s≤c∧c<r) (by omega);obtain ⟨z1,z2,z3,z4,z5⟩:=half_ s r c hce (by have:=HI.out;have:=HX.out;have:=HDOM.out;omega);obtain ⟨c1,hc1⟩:∃ c1,c+1=c1:=⟨_,rfl⟩;have hcw:IntKind.i64.wrap ((c:Int)+1)=(c1:Int):=by rw [Zg];have:=HI.out;have:=HX.out;have:=HDOM.out;omega
        have HC1:=Za hc1;obtain ⟨sr,hsr⟩:∃ sr,s+r=sr:=⟨_,rfl⟩;rw [hsr] at z1 z2 z3;have hdom:=HDOM.out.2.2.2.2 c (by have:=HI.out;omega) (by have:=HI.out;omega);obtain ⟨d,hd⟩:∃ d,pp - c=d:=⟨_,rfl⟩;have HDD:=Za (p:=d+c=pp∧a≤c∧c<m∧m≤d∧d<b) (by omega);have hdw:IntKind.i64.wrap ((pp:Int) - (c:Int))=(d:Int):=by rw [Zg];have:=HDD.out;have:=HX.out;omega
        have hcn:(c:Int)<(n:Int):=by have:=HDD.out;have:=HX.out;omega
        have hdn:(d:Int)<(n:Int):=by have:=HDD.out;have:=HX.out;omega
        obtain ⟨x,hx⟩:∃ x,X[c - a]?=some x:=⟨_,Zh (by have:=HDD.out;have:=HX.out;omega)⟩;obtain ⟨y,hy⟩:∃ y,Y[d - m]?=some y:=⟨_,Zh (by have:=HDD.out;have:=HX.out;omega)⟩;have HXY:=Za (And.intro hx hy);have HGa:=Za (p:=cur[d]?=some y) (by rw [HGY.out d HDD.out.2.2.2.1 HDD.out.2.2.2.2];exact hy);have HGb:=Za (p:=cur[c]?=some x) (by rw [HGX.out c HDD.out.2.1 HDD.out.2.2.1];exact hx);have HRd:=Za (HR.out.kept (below_drw wo));have HCd:=Za (HC.out.drew);have HKd:=Za (HCd.out.cell HK.out.1 (by simp;exact HK.out.2));obtain ⟨cv,hcv⟩:∃ cv,cmpv y.ck x.ck=cv:=⟨_,rfl⟩;have HIJ:=Za hij;clear hij hce hc1 hsr hdom hd hx hy;by_cases hlt:y.ck<x.ck
        · have hc0:cv<0:=by rw [← hcv];exact (cmpv_neg _ _).2 hlt
          have HLT:=Za hlt;clear hlt;go_upto_region 35 with fail
          have HSQ:=Za (p:=∀ W,Below wo.drew.heap.size wo.drew W→W.rangeAt gr (d*5) (ecs y)∧W.rangeAt gr (c*5) (ecs x)) (fun W hb=>⟨(HRd.out.kept hb).at_ HGa.out,(HRd.out.kept hb).at_ HGb.out⟩);refine Zq (S:=fun W=>W.rangeAt gr (d*5) (ecs y)∧W.rangeAt gr (c*5) (ecs x)) (by kernel_rfl) (HSQ.out _ (Below.refl _ _)) (fun hHeld=>?_);refine Ze (i:=0) (oi:=⟨some 158,.move (.tmp 4),_,_,_,_⟩) (v:=.func (.func 121) #[] #[.pointer (some ⟨gk,0,none⟩)]) rfl (by kernel_rfl) (by kernel_rfl) (by kernel_rfl) (fun _ _ _ h=>h) (.inl ⟨by rfl,fun w hSw=>by go_simp⟩) (by assumption) ?_;simp only [Act.put,Zb,Zc,Zd];refine Ze (i:=1) (oi:=⟨some 159,.move (.tmp 0),_,_,_,_⟩) (v:=.slice (some ⟨gr,0,none⟩) n cp) rfl (by kernel_rfl) (by kernel_rfl) (by kernel_rfl) (fun _ _ _ h=>h) (.inl ⟨by rfl,fun w hSw=>by go_simp⟩) (by assumption) ?_;simp only [Act.put,Zb,Zc,Zd];refine Ze (i:=2) (oi:=⟨some 160,.move (.tmp 22),_,_,_,_⟩) (v:=.int .i64 (pp:Int)) rfl (by kernel_rfl) (by kernel_rfl) (by kernel_rfl) (fun _ _ _ h=>h) (.inl ⟨by rfl,fun w hSw=>by go_simp⟩) (by assumption) ?_;simp only [Act.put,Zb,Zc,Zd];refine Ze (i:=3) (oi:=⟨some 161,.move (.tmp 23),_,_,_,_⟩) (v:=.int .i64 (c:Int)) rfl (by kernel_rfl) (by kernel_rfl) (by kernel_rfl) (fun _ _ _ h=>h) (.inl ⟨by rfl,fun w hSw=>by go_simp⟩) (by assumption) ?_;simp only [Act.put,Zb,Zc,Zd];refine Ze (i:=4) (oi:=⟨some 162,.binOp .sub 3 (.tmp 160) (.tmp 161) 3,_,_,_,_⟩) (v:=.int .i64 (d:Int)) rfl (by kernel_rfl) (by kernel_rfl) (by kernel_rfl) (fun _ _ _ h=>h) (.inl ⟨by rfl,fun w hSw=>by go_simp⟩) (by assumption) ?_;simp only [Act.put,Zb,Zc,Zd];refine Ze (i:=5) (oi:=⟨some 163,.indexAddr 46 (.tmp 159) (.tmp 162),_,_,_,_⟩) (v:=.pointer (some ⟨gr,d*5,none⟩)) rfl (by kernel_rfl) (by kernel_rfl) (by kernel_rfl) (fun _ _ _ h=>h) (.inl ⟨by rfl,fun w hSw=>by go_simp⟩) (by assumption) ?_;simp only [Act.put,Zb,Zc,Zd];refine Ze (i:=6) (oi:=⟨some 164,.load 61 (.tmp 163),_,_,_,_⟩) (v:=.agg (ecs y).toArray) rfl (by kernel_rfl) (by kernel_rfl) (by kernel_rfl) (fun _ _ _ h=>h) (Yb (by rfl) 61 (.tmp 163) rfl gr (d*5) rfl (ecs y) _ (fun w hSw=>hSw.1) Yi rfl (info_ent y)) (by assumption) ?_;simp only [Act.put,Zb,Zc,Zd];refine Ze (i:=7) (oi:=⟨some 165,.move (.tmp 0),_,_,_,_⟩) (v:=.slice (some ⟨gr,0,none⟩) n cp) rfl (by kernel_rfl) (by kernel_rfl) (by kernel_rfl) (fun _ _ _ h=>h) (.inl ⟨by rfl,fun w hSw=>by go_simp⟩) (by assumption) ?_;simp only [Act.put,Zb,Zc,Zd];refine Ze (i:=8) (oi:=⟨some 166,.move (.tmp 23),_,_,_,_⟩) (v:=.int .i64 (c:Int)) rfl (by kernel_rfl) (by kernel_rfl) (by kernel_rfl) (fun _ _ _ h=>h) (.inl ⟨by rfl,fun w hSw=>by go_simp⟩) (by assumption) ?_;simp only [Act.put,Zb,Zc,Zd];refine Ze (i:=9) (oi:=⟨some 167,.indexAddr 46 (.tmp 165) (.tmp 166),_,_,_,_⟩) (v:=.pointer (some ⟨gr,c*5,none⟩)) rfl (by kernel_rfl) (by kernel_rfl) (by kernel_rfl) (fun _ _ _ h=>h) (.inl ⟨by rfl,fun w hSw=>by go_simp⟩) (by assumption) ?_;simp only [Act.put,Zb,Zc,Zd];refine Ze (i:=10) (oi:=⟨some 168,.load 61 (.tmp 167),_,_,_,_⟩) (v:=.agg (ecs x).toArray) rfl (by kernel_rfl) (by kernel_rfl) (by kernel_rfl) (fun _ _ _ h=>h) (Yb (by rfl) 61 (.tmp 167) rfl gr (c*5) rfl (ecs x) _ (fun w hSw=>hSw.2) Yi rfl (info_ent x)) (by assumption) ?_;simp only [Act.put,Zb,Zc,Zd];refine Zp (rs:=[11]) (by kernel_rfl) (by simp) ?_;refine Zl (o:=⟨some 169,.call ⟨.value (.tmp 158),#[.tmp 164,.tmp 168],_⟩,_,_,_,_⟩) rfl (fun K hK=>?_) Zo;go_simp;go_at_call 121;refine (bycmp_any y x gk _ HKd.out).mono ?_;rintro e wd ⟨rfl,hb⟩;rw [hcv];have HBd:=Za hb;clear hb;refine hK.out _ _ (HSQ.out _ HBd.out) (fun _hc=>?_);clear hK K;refine Ze (i:=12) (oi:=⟨some 170,.binOp .lss 3 (.tmp 169) (.const (.int .i64 0)) 3,_,_,_,_⟩) (v:=.bool true) rfl (by kernel_rfl) (by kernel_rfl) (by kernel_rfl) (fun _ _ _ h=>h) (.inl ⟨by rfl,fun w hSw=>by go_simp⟩) (by assumption) ?_;simp only [Act.put,Zb,Zc,Zd];refine Ze (i:=13) (oi:=⟨some 171,.unOp .not 4 (.tmp 170),_,_,_,_⟩) (v:=.bool false) rfl (by kernel_rfl) (by kernel_rfl) (by kernel_rfl) (fun _ _ _ h=>h) (.inl ⟨by rfl,fun w hSw=>by go_simp⟩) (by assumption) ?_;simp only [Act.put,Zb,Zc,Zd];refine Yg (by kernel_rfl) ?_ _;have HR9:=Za (HRd.out.kept HBd.out);have HC9:=Za (HCd.out.trans (Chg.of (F:=[gr]) HBd.out) (fun z hz=>.inl hz));clear HRd HCd HKd HSQ HR HC;go_wp2_with fail;go_roundw
          case rel=>exact ⟨s,c,rfl,rfl,Za (by have:=HI.out;have:=HH.out;omega),Za ⟨HB.out.1,fun c' x' y' h1 h2 hx' hy'=>by
              have h3:=HDOM.out.2.2.2.2 c' (by have:=HI.out;have:=HH.out;omega) h2;have h4:=HDD.out;rw [HGX.out c' h3.1 h3.2.1] at hx';rw [HGY.out (pp - c') h3.2.2.1 h3.2.2.2.1] at hy';have h5:=HO.out.1.get HXY.out.1 hx' (by omega);have h6:=HO.out.2.get hy' HXY.out.2 (by omega);have:=HLT.out;omega⟩,HR9,HC9⟩
          case measure=>have:=HIJ.out;have:=HH.out;simp [intOf];omega
        · have hc0:¬ cv<0:=by rw [← hcv];exact fun h=>hlt ((cmpv_neg _ _).1 h)
          have HLT:=Za (p:=x.ck≤y.ck) (by omega);clear hlt;go_upto_region 35 with fail
          have HSQ:=Za (p:=∀ W,Below wo.drew.heap.size wo.drew W→W.rangeAt gr (d*5) (ecs y)∧W.rangeAt gr (c*5) (ecs x)) (fun W hb=>⟨(HRd.out.kept hb).at_ HGa.out,(HRd.out.kept hb).at_ HGb.out⟩);refine Zq (S:=fun W=>W.rangeAt gr (d*5) (ecs y)∧W.rangeAt gr (c*5) (ecs x)) (by kernel_rfl) (HSQ.out _ (Below.refl _ _)) (fun hHeld=>?_);refine Ze (i:=0) (oi:=⟨some 158,.move (.tmp 4),_,_,_,_⟩) (v:=.func (.func 121) #[] #[.pointer (some ⟨gk,0,none⟩)]) rfl (by kernel_rfl) (by kernel_rfl) (by kernel_rfl) (fun _ _ _ h=>h) (.inl ⟨by rfl,fun w hSw=>by go_simp⟩) (by assumption) ?_;simp only [Act.put,Zb,Zc,Zd];refine Ze (i:=1) (oi:=⟨some 159,.move (.tmp 0),_,_,_,_⟩) (v:=.slice (some ⟨gr,0,none⟩) n cp) rfl (by kernel_rfl) (by kernel_rfl) (by kernel_rfl) (fun _ _ _ h=>h) (.inl ⟨by rfl,fun w hSw=>by go_simp⟩) (by assumption) ?_;simp only [Act.put,Zb,Zc,Zd];refine Ze (i:=2) (oi:=⟨some 160,.move (.tmp 22),_,_,_,_⟩) (v:=.int .i64 (pp:Int)) rfl (by kernel_rfl) (by kernel_rfl) (by kernel_rfl) (fun _ _ _ h=>h) (.inl ⟨by rfl,fun w hSw=>by go_simp⟩) (by assumption) ?_;simp only [Act.put,Zb,Zc,Zd];refine Ze (i:=3) (oi:=⟨some 161,.move (.tmp 23),_,_,_,_⟩) (v:=.int .i64 (c:Int)) rfl (by kernel_rfl) (by kernel_rfl) (by kernel_rfl) (fun _ _ _ h=>h) (.inl ⟨by rfl,fun w hSw=>by go_simp⟩) (by assumption) ?_;simp only [Act.put,Zb,Zc,Zd];refine Ze (i:=4) (oi:=⟨some 162,.binOp .sub 3 (.tmp 160) (.tmp 161) 3,_,_,_,_⟩) (v:=.int .i64 (d:Int)) rfl (by kernel_rfl) (by kernel_rfl) (by kernel_rfl) (fun _ _ _ h=>h) (.inl ⟨by rfl,fun w hSw=>by go_simp⟩) (by assumption) ?_;simp only [Act.put,Zb,Zc,Zd];refine Ze (i:=5) (oi:=⟨some 163,.indexAddr 46 (.tmp 159) (.tmp 162),_,_,_,_⟩) (v:=.pointer (some ⟨gr,d*5,none⟩)) rfl (by kernel_rfl) (by kernel_rfl) (by kernel_rfl) (fun _ _ _ h=>h) (.inl ⟨by rfl,fun w hSw=>by go_simp⟩) (by assumption) ?_;simp only [Act.put,Zb,Zc,Zd];refine Ze (i:=6) (oi:=⟨some 164,.load 61 (.tmp 163),_,_,_,_⟩) (v:=.agg (ecs y).toArray) rfl (by kernel_rfl) (by kernel_rfl) (by kernel_rfl) (fun _ _ _ h=>h) (Yb (by rfl) 61 (.tmp 163) rfl gr (d*5) rfl (ecs y) _ (fun w hSw=>hSw.1) Yi rfl (info_ent y)) (by assumption) ?_;simp only [Act.put,Zb,Zc,Zd];refine Ze (i:=7) (oi:=⟨some 165,.move (.tmp 0),_,_,_,_⟩) (v:=.slice (some ⟨gr,0,none⟩) n cp) rfl (by kernel_rfl) (by kernel_rfl) (by kernel_rfl) (fun _ _ _ h=>h) (.inl ⟨by rfl,fun w hSw=>by go_simp⟩) (by assumption) ?_;simp only [Act.put,Zb,Zc,Zd];refine Ze (i:=8) (oi:=⟨some 166,.move (.tmp 23),_,_,_,_⟩) (v:=.int .i64 (c:Int)) rfl (by kernel_rfl) (by kernel_rfl) (by kernel_rfl) (fun _ _ _ h=>h) (.inl ⟨by rfl,fun w hSw=>by go_simp⟩) (by assumption) ?_;simp only [Act.put,Zb,Zc,Zd];refine Ze (i:=9) (oi:=⟨some 167,.indexAddr 46 (.tmp 165) (.tmp 166),_,_,_,_⟩) (v:=.pointer (some ⟨gr,c*5,none⟩)) rfl (by kernel_rfl) (by kernel_rfl) (by kernel_rfl) (fun _ _ _ h=>h) (.inl ⟨by rfl,fun w hSw=>by go_simp⟩) (by assumption) ?_;simp only [Act.put,Zb,Zc,Zd];refine Ze (i:=10) (oi:=⟨some 168,.load 61 (.tmp 167),_,_,_,_⟩) (v:=.agg (ecs x).toArray) rfl (by kernel_rfl) (by kernel_rfl) (by kernel_rfl) (fun _ _ _ h=>h) (Yb (by rfl) 61 (.tmp 167) rfl gr (c*5) rfl (ecs x) _ (fun w hSw=>hSw.2) Yi rfl (info_ent x)) (by assumption) ?_;simp only [Act.put,Zb,Zc,Zd];refine Zp (rs:=[11]) (by kernel_rfl) (by simp) ?_;refine Zl (o:=⟨some 169,.call ⟨.value (.tmp 158),#[.tmp 164,.tmp 168],_⟩,_,_,_,_⟩) rfl (fun K hK=>?_) Zo;go_simp;go_at_call 121;refine (bycmp_any y x gk _ HKd.out).mono ?_;rintro e wd ⟨rfl,hb⟩;rw [hcv];have HBd:=Za hb;clear hb;refine hK.out _ _ (HSQ.out _ HBd.out) (fun _hc=>?_);clear hK K;refine Ze (i:=12) (oi:=⟨some 170,.binOp .lss 3 (.tmp 169) (.const (.int .i64 0)) 3,_,_,_,_⟩) (v:=.bool false) rfl (by kernel_rfl) (by kernel_rfl) (by kernel_rfl) (fun _ _ _ h=>h) (.inl ⟨by rfl,fun w hSw=>by go_simp⟩) (by assumption) ?_;simp only [Act.put,Zb,Zc,Zd];refine Ze (i:=13) (oi:=⟨some 171,.unOp .not 4 (.tmp 170),_,_,_,_⟩) (v:=.bool true) rfl (by kernel_rfl) (by kernel_rfl) (by kernel_rfl) (fun _ _ _ h=>h) (.inl ⟨by rfl,fun w hSw=>by go_simp⟩) (by assumption) ?_;simp only [Act.put,Zb,Zc,Zd];refine Yg (by kernel_rfl) ?_ _;have HR9:=Za (HRd.out.kept HBd.out);have HC9:=Za (HCd.out.trans (Chg.of (F:=[gr]) HBd.out) (fun z hz=>.inl hz));clear HRd HCd HKd HSQ HR HC;go_wp2_with fail;go_roundw
          case rel=>exact ⟨c1,r,rfl,rfl,Za (by have:=HI.out;have:=HH.out;have:=HC1.out;omega),Za ⟨fun c' x' y' h1 h2 hx' hy'=>by
              have h3:=HDOM.out.2.2.2.2 c' h1 (by have:=HI.out;have:=HH.out;have:=HC1.out;omega);have h4:=HDD.out;rw [HGX.out c' h3.1 h3.2.1] at hx';rw [HGY.out (pp - c') h3.2.2.1 h3.2.2.2.1] at hy';have h5:=HO.out.1.get hx' HXY.out.1 (by have:=HC1.out;omega);have h6:=HO.out.2.get HXY.out.2 hy' (by have:=HC1.out;omega);have:=HLT.out;omega,HB.out.2⟩,HR9,HC9⟩
          case measure=>have:=HIJ.out;have:=HH.out;have:=HC1.out;simp [intOf];omega
      · have hiji : ¬ (s:Int)<(r:Int):=by omega
        have hije:s=r:=by have:=HI.out;omega
        subst hije;clear hij;obtain ⟨en,hen⟩:∃ en,nn - s=en:=⟨_,rfl⟩;have hE:=HEND.out.1 s HI.out.1 HI.out.2.2;have HE:=Za (p:=en+s=nn∧m≤en∧en≤b∧a≤s∧s≤m∧s≤mid) (by have:=HI.out;have:=HDOM.out;have:=HM.out;omega);have hew:IntKind.i64.wrap ((nn:Int) - (s:Int))=(en:Int):=by rw [Zg];have:=HE.out;have:=HX.out;have:=HM.out;omega
        clear hen hE;obtain ⟨X1,X2,hX12,hX1⟩:∃ X1 X2,X=X1++X2∧X1.length=s - a:=⟨X.take (s - a),X.drop (s - a),(List.take_append_drop _ _).symm,by rw [Zu];have:=HE.out;have:=HX.out;omega⟩;obtain ⟨Y1,Y2,hY12,hY1⟩:∃ Y1 Y2,Y=Y1++Y2∧Y1.length=en - m:=⟨Y.take (en - m),Y.drop (en - m),(List.take_append_drop _ _).symm,by rw [Zu];have:=HE.out;have:=HX.out;omega⟩
        have HXX:=Za (p:=X=X1++X2∧Y=Y1++Y2∧a+X1.length=s∧s+X2.length=m∧m+Y1.length=en∧en+Y2.length=b∧s+Y1.length=mid∧mid+X2.length=en) (by
          have h1:=HE.out;have h2:=HX.out;have h3:=HM.out;have h4:=congrArg List.length hX12;have h5:=congrArg List.length hY12;rw [Zf] at h4 h5;exact ⟨hX12,hY12,by omega,by omega,by omega,by omega,by omega,by omega⟩)
        clear hX12 hX1 hY12 hY1;have HOX:=Za (p:=Ord Ent.ck (X1++X2)∧Ord Ent.ck (Y1++Y2)) ⟨by rw [← HXX.out.1];exact HO.out.1,by rw [← HXX.out.2.1];exact HO.out.2⟩
        have HLOW:=Za (p:=∀ y ∈ Y1,∀ x ∈ X2,y.ck<x.ck) (fun y hy x hx=>by
          have h1:=HXX.out;have h2:=HX.out;have h3:=HE.out;obtain ⟨q,hq⟩:=List.mem_iff_getElem?.1 hy;obtain ⟨t,ht⟩:=List.mem_iff_getElem?.1 hx;have hql:=(Zn.1 hq).1;have htl:=(Zn.1 ht).1;have hsh:=HEND.out.2.1 s HI.out.2.2 (by omega) (by omega);obtain ⟨xs,hxs⟩:∃ xs,X[s - a]?=some xs:=⟨_,Zh (by omega)⟩;obtain ⟨ye,hye⟩:∃ ye,Y[en - 1 - m]?=some ye:=⟨_,Zh (by omega)⟩;have h4:=HB.out.2 s xs ye (Zj _) hsh (by rw [HGX.out s (by omega) (by omega)];exact hxs) (by rw [show pp - s=en - 1 by have:=HM.out;omega,HGY.out (en - 1) (by omega) (by omega)];exact hye);have h5:=HO.out.1.get hxs (show X[s - a+t]?=some x by rw [h1.1,Zm (by omega),show s - a+t - X1.length=t by omega];exact ht) (by omega);have h6:=HO.out.2.get (show Y[q]?=some y by rw [h1.2.1,Zv hql];exact hq) hye (by omega);omega)
        have HHIG:=Za (p:=∀ x ∈ X1,∀ y ∈ Y2,x.ck≤y.ck) (fun x hx y hy=>by
          have h1:=HXX.out;have h2:=HX.out;have h3:=HE.out;obtain ⟨t,ht⟩:=List.mem_iff_getElem?.1 hx;obtain ⟨q,hq⟩:=List.mem_iff_getElem?.1 hy;have hql:=(Zn.1 hq).1;have htl:=(Zn.1 ht).1;have hsh:=HEND.out.2.2 s HI.out.1 (by omega) (by omega);obtain ⟨xs,hxs⟩:∃ xs,X[s - 1 - a]?=some xs:=⟨_,Zh (by omega)⟩;obtain ⟨ye,hye⟩:∃ ye,Y[en - m]?=some ye:=⟨_,Zh (by omega)⟩;have h4:=HB.out.1 (s - 1) xs ye (by omega) (by omega) (by rw [HGX.out (s - 1) (by omega) (by omega)];exact hxs) (by rw [show pp - (s - 1)=en by have:=HM.out;omega,HGY.out en (by omega) (by omega)];exact hye);have h5:=HO.out.1.get (show X[t]?=some x by rw [h1.1,Zv htl];exact ht) hxs (by omega);have h6:=HO.out.2.get hye (show Y[en - m+q]?=some y by rw [h1.2.1,Zm (by omega),show en - m+q - Y1.length=q by omega];exact hq) (by omega);omega)
        have HK1:=Za (HC.out.cell HK.out.1 (by simp;exact HK.out.2));have HRX:=Za (p:=ER wo gr (P++(X1++(X2++(Y1++(Y2++S))))) Z) (by have h9:=HR.out;rw [← HCUR.out,HXX.out.1,HXX.out.2.1] at h9;simpa only [Zi] using h9);by_cases qX1:0<X1.length
        · by_cases qY1:0<Y1.length
          · by_cases qX2:0<X2.length
            · by_cases qY2:0<Y2.length
              · have HPOS:=Za (p:=True∧0<X2.length∧0<Y1.length∧(0<X1.length∧0<Y1.length)∧(0<X2.length∧0<Y2.length)) (by refine ⟨?_,?_,?_,?_,?_⟩ <;> first | trivial | omega);have g1:(s:Int)<(m:Int):=by have:=HXX.out;omega
                have g2:(m:Int)<(en:Int):=by have:=HXX.out;omega
                have g3:(a:Int)<(s:Int):=by have:=HXX.out;omega
                have g4:(s:Int)<(mid:Int):=by have:=HXX.out;omega
                have g5:(mid:Int)<(en:Int):=by have:=HXX.out;omega
                have g6:(en:Int)<(b:Int):=by have:=HXX.out;omega
                clear qX1 qY1 qX2 qY2
                go_wp2_with (first
                  | (go_at_call 151;refine (rotate_any gr n cp s m en _ (P++X1) X2 Y1 (Y2++S) Z (by rw [Zf];have:=HX.out;have:=HXX.out;omega) HXX.out.2.2.2.1 HXX.out.2.2.2.2.1 (by rw [Zf];have:=HX.out;have:=HXX.out;omega) HPOS.out.2.1 HPOS.out.2.2.1 HX.out.2.2.2.2.1 _ (by have h9:=HRX.out;simpa only [Zi] using h9)).mono ?_;rintro e w2 ⟨rfl,hr,hc⟩;have HR2:=Za (p:=ER w2 gr (P++(X1++(Y1++(X2++(Y2++S))))) Z) (by simpa only [Zi] using hr)
                     have HC2:=Za (HC.out.trans hc (fun z hz=>.inl hz));have HK2:=Za (hc.cell HK1.out (by simp;exact HK.out.2));clear hr hc)
                  | (go_at_call_of 145 (Value.int IntKind.i64 (mid:Int));(fail_if_success (have:=HML));refine (IH.out a s mid (by have:=HX.out;have:=HM.out;omega) P X1 Y1 (X2++(Y2++S)) _ HX.out.1 HXX.out.2.2.1 HXX.out.2.2.2.2.2.2.1 (by simp only [Zf];have:=HX.out;have:=HXX.out;omega) (by have:=HPOS.out;omega) (by have:=HPOS.out;omega) HOX.out.1.left HOX.out.2.left HK2.out HK.out.2 HR2.out).mono ?_;rintro e w3 ⟨rfl,M1,hr,ho,hs,hc⟩;have HR3:=Za hr
                     have HC3:=Za (HC2.out.trans hc (fun z hz=>.inl hz));have HK3:=Za (hc.cell HK2.out (by simp;exact HK.out.2));have HM1:=Za (And.intro ho hs);have HML:=Za True.intro;clear hr ho hs hc)
                  | (go_at_call_of 145 (Value.int IntKind.i64 (en:Int));refine (IH.out mid en b (by have:=HX.out;have:=HM.out;omega) (P++M1) X2 Y2 S _ (by rw [Zf];have h9:=HM1.out.2.len;rw [Zf] at h9;have:=HX.out;have:=HXX.out;omega) HXX.out.2.2.2.2.2.2.2 HXX.out.2.2.2.2.2.1 HX.out.2.2.2.1 (by have:=HPOS.out;omega) (by have:=HPOS.out;omega) HOX.out.1.right HOX.out.2.right HK3.out HK.out.2 (by have h9:=HR3.out;simpa only [Zi] using h9)).mono ?_;rintro e w4 ⟨rfl,M2,hr,ho,hs,hc⟩;have HR4:=Za (p:=ER w4 gr (P++(M1++(M2++S))) Z) (by simpa only [Zi] using hr)
                     have HC4:=Za (HC3.out.trans hc (fun z hz=>.inl hz));have HM2:=Za (And.intro ho hs);clear hr ho hs hc))
                go_end0;obtain ⟨hq1,hq2⟩:=mg_whole HOX.out.1 HOX.out.2 HLOW.out HHIG.out HM1.out.1 HM2.out.1 HM1.out.2 HM2.out.2;refine ⟨rfl,M1++M2,?_,hq1,?_,HC4.out⟩
                · have h9:=HR4.out;simpa only [Zi] using h9
                · rw [HXX.out.1,HXX.out.2.1];exact hq2
              · have HPOS:=Za (p:=True∧0<X2.length∧0<Y1.length∧(0<X1.length∧0<Y1.length)∧(X2.length=0∨Y2.length=0)) (by refine ⟨?_,?_,?_,?_,?_⟩ <;> first | trivial | omega);have g1:(s:Int)<(m:Int):=by have:=HXX.out;omega
                have g2:(m:Int)<(en:Int):=by have:=HXX.out;omega
                have g3:(a:Int)<(s:Int):=by have:=HXX.out;omega
                have g4:(s:Int)<(mid:Int):=by have:=HXX.out;omega
                have g5:(mid:Int)<(en:Int):=by have:=HXX.out;omega
                have g6:¬ (en:Int)<(b:Int):=by have:=HXX.out;omega
                clear qX1 qY1 qX2 qY2
                go_wp2_with (first
                  | (go_at_call 151;refine (rotate_any gr n cp s m en _ (P++X1) X2 Y1 (Y2++S) Z (by rw [Zf];have:=HX.out;have:=HXX.out;omega) HXX.out.2.2.2.1 HXX.out.2.2.2.2.1 (by rw [Zf];have:=HX.out;have:=HXX.out;omega) HPOS.out.2.1 HPOS.out.2.2.1 HX.out.2.2.2.2.1 _ (by have h9:=HRX.out;simpa only [Zi] using h9)).mono ?_;rintro e w2 ⟨rfl,hr,hc⟩;have HR2:=Za (p:=ER w2 gr (P++(X1++(Y1++(X2++(Y2++S))))) Z) (by simpa only [Zi] using hr)
                     have HC2:=Za (HC.out.trans hc (fun z hz=>.inl hz));have HK2:=Za (hc.cell HK1.out (by simp;exact HK.out.2));clear hr hc)
                  | (go_at_call_of 145 (Value.int IntKind.i64 (mid:Int));(fail_if_success (have:=HML));refine (IH.out a s mid (by have:=HX.out;have:=HM.out;omega) P X1 Y1 (X2++(Y2++S)) _ HX.out.1 HXX.out.2.2.1 HXX.out.2.2.2.2.2.2.1 (by simp only [Zf];have:=HX.out;have:=HXX.out;omega) (by have:=HPOS.out;omega) (by have:=HPOS.out;omega) HOX.out.1.left HOX.out.2.left HK2.out HK.out.2 HR2.out).mono ?_;rintro e w3 ⟨rfl,M1,hr,ho,hs,hc⟩;have HR3:=Za hr
                     have HC3:=Za (HC2.out.trans hc (fun z hz=>.inl hz));have HK3:=Za (hc.cell HK2.out (by simp;exact HK.out.2));have HM1:=Za (And.intro ho hs);have HML:=Za True.intro;clear hr ho hs hc))
                go_end0
                have hO2:Ord Ent.ck (X2++Y2):=by
                  rcases HPOS.out.2.2.2.2 with h0 | h0
                  · rw [Zk h0,Zt];exact HOX.out.2.right
                  · rw [Zk h0,Zy];exact HOX.out.1.right
                obtain ⟨hq1,hq2⟩:=mg_whole HOX.out.1 HOX.out.2 HLOW.out HHIG.out HM1.out.1 hO2 HM1.out.2 (SameK.refl _);refine ⟨rfl,M1++(X2++Y2),?_,hq1,?_,HC3.out⟩
                · have h9:=HR3.out;simpa only [Zi] using h9
                · rw [HXX.out.1,HXX.out.2.1];exact hq2
            · by_cases qY2:0<Y2.length
              · exact absurd (by have h1:=HXX.out;have h2:=HX.out;have h3:=HM.out;have h4:=HLH.out;have h5:=HE.out;have h6:=congrArg List.length h1.1;have h7:=congrArg List.length h1.2.1;rw [Zf] at h6 h7;omega:False) id
              · exact absurd (by have h1:=HXX.out;have h2:=HX.out;have h3:=HM.out;have h4:=HLH.out;have h5:=HE.out;have h6:=congrArg List.length h1.1;have h7:=congrArg List.length h1.2.1;rw [Zf] at h6 h7;omega:False) id
          · by_cases qX2:0<X2.length
            · by_cases qY2:0<Y2.length
              · have HPOS:=Za (p:=(X2.length=0∨Y1.length=0)∧True∧True∧(X1.length=0∨Y1.length=0)∧(0<X2.length∧0<Y2.length)) (by refine ⟨?_,?_,?_,?_,?_⟩ <;> first | trivial | omega);have g1:(s:Int)<(m:Int):=by have:=HXX.out;omega
                have g2:¬ (m:Int)<(en:Int):=by have:=HXX.out;omega
                have g3:(a:Int)<(s:Int):=by have:=HXX.out;omega
                have g4:¬ (s:Int)<(mid:Int):=by have:=HXX.out;omega
                have g5:(mid:Int)<(en:Int):=by have:=HXX.out;omega
                have g6:(en:Int)<(b:Int):=by have:=HXX.out;omega
                clear qX1 qY1 qX2 qY2
                have HR2:=Za (p:=ER wo gr (P++(X1++(Y1++(X2++(Y2++S))))) Z) (by
                  have h9:=HRX.out;rcases HPOS.out.1 with h0 | h0
                  · rw [Zk h0] at h9 ⊢;simpa only [Zi,Zt] using h9
                  · rw [Zk h0] at h9 ⊢;simpa only [Zi,Zt] using h9)
                have HC2:=HC;have HK2:=HK1
                go_wp2_with (first
                  | (go_at_call_of 145 (Value.int IntKind.i64 (en:Int));refine (IH.out mid en b (by have:=HX.out;have:=HM.out;omega) (P++(X1++Y1)) X2 Y2 S _ (by simp only [Zf];have:=HX.out;have:=HXX.out;omega) HXX.out.2.2.2.2.2.2.2 HXX.out.2.2.2.2.2.1 HX.out.2.2.2.1 (by have:=HPOS.out;omega) (by have:=HPOS.out;omega) HOX.out.1.right HOX.out.2.right HK2.out HK.out.2 (by have h9:=HR2.out;simpa only [Zi] using h9)).mono ?_;rintro e w4 ⟨rfl,M2,hr,ho,hs,hc⟩;have HR4:=Za (p:=ER w4 gr (P++((X1++Y1)++(M2++S))) Z) (by simpa only [Zi] using hr)
                     have HC4:=Za (HC2.out.trans hc (fun z hz=>.inl hz));have HM2:=Za (And.intro ho hs);clear hr ho hs hc))
                go_end0
                have hO1:Ord Ent.ck (X1++Y1):=by
                  rcases HPOS.out.2.2.2.1 with h0 | h0
                  · rw [Zk h0,Zt];exact HOX.out.2.left
                  · rw [Zk h0,Zy];exact HOX.out.1.left
                obtain ⟨hq1,hq2⟩:=mg_whole HOX.out.1 HOX.out.2 HLOW.out HHIG.out hO1 HM2.out.1 (SameK.refl _) HM2.out.2;refine ⟨rfl,(X1++Y1)++M2,?_,hq1,?_,HC4.out⟩
                · have h9:=HR4.out;simpa only [Zi] using h9
                · rw [HXX.out.1,HXX.out.2.1];exact hq2
              · exact absurd (by have h1:=HXX.out;have h2:=HX.out;have h3:=HM.out;have h4:=HLH.out;have h5:=HE.out;have h6:=congrArg List.length h1.1;have h7:=congrArg List.length h1.2.1;rw [Zf] at h6 h7;omega:False) id
            · by_cases qY2:0<Y2.length
              · exact absurd (by have h1:=HXX.out;have h2:=HX.out;have h3:=HM.out;have h4:=HLH.out;have h5:=HE.out;have h6:=congrArg List.length h1.1;have h7:=congrArg List.length h1.2.1;rw [Zf] at h6 h7;omega:False) id
              · exact absurd (by have h1:=HXX.out;have h2:=HX.out;have h3:=HM.out;have h4:=HLH.out;have h5:=HE.out;have h6:=congrArg List.length h1.1;have h7:=congrArg List.length h1.2.1;rw [Zf] at h6 h7;omega:False) id
        · by_cases qY1:0<Y1.length
          · by_cases qX2:0<X2.length
            · by_cases qY2:0<Y2.length
              · have HPOS:=Za (p:=True∧0<X2.length∧0<Y1.length∧(X1.length=0∨Y1.length=0)∧(0<X2.length∧0<Y2.length)) (by refine ⟨?_,?_,?_,?_,?_⟩ <;> first | trivial | omega);have g1:(s:Int)<(m:Int):=by have:=HXX.out;omega
                have g2:(m:Int)<(en:Int):=by have:=HXX.out;omega
                have g3:¬ (a:Int)<(s:Int):=by have:=HXX.out;omega
                have g4:(s:Int)<(mid:Int):=by have:=HXX.out;omega
                have g5:(mid:Int)<(en:Int):=by have:=HXX.out;omega
                have g6:(en:Int)<(b:Int):=by have:=HXX.out;omega
                clear qX1 qY1 qX2 qY2
                go_wp2_with (first
                  | (go_at_call 151;refine (rotate_any gr n cp s m en _ (P++X1) X2 Y1 (Y2++S) Z (by rw [Zf];have:=HX.out;have:=HXX.out;omega) HXX.out.2.2.2.1 HXX.out.2.2.2.2.1 (by rw [Zf];have:=HX.out;have:=HXX.out;omega) HPOS.out.2.1 HPOS.out.2.2.1 HX.out.2.2.2.2.1 _ (by have h9:=HRX.out;simpa only [Zi] using h9)).mono ?_;rintro e w2 ⟨rfl,hr,hc⟩;have HR2:=Za (p:=ER w2 gr (P++(X1++(Y1++(X2++(Y2++S))))) Z) (by simpa only [Zi] using hr)
                     have HC2:=Za (HC.out.trans hc (fun z hz=>.inl hz));have HK2:=Za (hc.cell HK1.out (by simp;exact HK.out.2));clear hr hc)
                  | (go_at_call_of 145 (Value.int IntKind.i64 (en:Int));refine (IH.out mid en b (by have:=HX.out;have:=HM.out;omega) (P++(X1++Y1)) X2 Y2 S _ (by simp only [Zf];have:=HX.out;have:=HXX.out;omega) HXX.out.2.2.2.2.2.2.2 HXX.out.2.2.2.2.2.1 HX.out.2.2.2.1 (by have:=HPOS.out;omega) (by have:=HPOS.out;omega) HOX.out.1.right HOX.out.2.right HK2.out HK.out.2 (by have h9:=HR2.out;simpa only [Zi] using h9)).mono ?_;rintro e w4 ⟨rfl,M2,hr,ho,hs,hc⟩;have HR4:=Za (p:=ER w4 gr (P++((X1++Y1)++(M2++S))) Z) (by simpa only [Zi] using hr)
                     have HC4:=Za (HC2.out.trans hc (fun z hz=>.inl hz));have HM2:=Za (And.intro ho hs);clear hr ho hs hc))
                go_end0
                have hO1:Ord Ent.ck (X1++Y1):=by
                  rcases HPOS.out.2.2.2.1 with h0 | h0
                  · rw [Zk h0,Zt];exact HOX.out.2.left
                  · rw [Zk h0,Zy];exact HOX.out.1.left
                obtain ⟨hq1,hq2⟩:=mg_whole HOX.out.1 HOX.out.2 HLOW.out HHIG.out hO1 HM2.out.1 (SameK.refl _) HM2.out.2;refine ⟨rfl,(X1++Y1)++M2,?_,hq1,?_,HC4.out⟩
                · have h9:=HR4.out;simpa only [Zi] using h9
                · rw [HXX.out.1,HXX.out.2.1];exact hq2
              · have HPOS:=Za (p:=True∧0<X2.length∧0<Y1.length∧(X1.length=0∨Y1.length=0)∧(X2.length=0∨Y2.length=0)) (by refine ⟨?_,?_,?_,?_,?_⟩ <;> first | trivial | omega);have g1:(s:Int)<(m:Int):=by have:=HXX.out;omega
                have g2:(m:Int)<(en:Int):=by have:=HXX.out;omega
                have g3:¬ (a:Int)<(s:Int):=by have:=HXX.out;omega
                have g4:(s:Int)<(mid:Int):=by have:=HXX.out;omega
                have g5:(mid:Int)<(en:Int):=by have:=HXX.out;omega
                have g6:¬ (en:Int)<(b:Int):=by have:=HXX.out;omega
                clear qX1 qY1 qX2 qY2
                go_wp2_with (first
                  | (go_at_call 151;refine (rotate_any gr n cp s m en _ (P++X1) X2 Y1 (Y2++S) Z (by rw [Zf];have:=HX.out;have:=HXX.out;omega) HXX.out.2.2.2.1 HXX.out.2.2.2.2.1 (by rw [Zf];have:=HX.out;have:=HXX.out;omega) HPOS.out.2.1 HPOS.out.2.2.1 HX.out.2.2.2.2.1 _ (by have h9:=HRX.out;simpa only [Zi] using h9)).mono ?_;rintro e w2 ⟨rfl,hr,hc⟩;have HR2:=Za (p:=ER w2 gr (P++(X1++(Y1++(X2++(Y2++S))))) Z) (by simpa only [Zi] using hr)
                     have HC2:=Za (HC.out.trans hc (fun z hz=>.inl hz));have HK2:=Za (hc.cell HK1.out (by simp;exact HK.out.2));clear hr hc))
                go_end0
                have hO1:Ord Ent.ck (X1++Y1):=by
                  rcases HPOS.out.2.2.2.1 with h0 | h0
                  · rw [Zk h0,Zt];exact HOX.out.2.left
                  · rw [Zk h0,Zy];exact HOX.out.1.left
                have hO2:Ord Ent.ck (X2++Y2):=by
                  rcases HPOS.out.2.2.2.2 with h0 | h0
                  · rw [Zk h0,Zt];exact HOX.out.2.right
                  · rw [Zk h0,Zy];exact HOX.out.1.right
                obtain ⟨hq1,hq2⟩:=mg_whole HOX.out.1 HOX.out.2 HLOW.out HHIG.out hO1 hO2 (SameK.refl _) (SameK.refl _);refine ⟨rfl,(X1++Y1)++(X2++Y2),?_,hq1,?_,HC2.out⟩
                · have h9:=HR2.out;simpa only [Zi] using h9
                · rw [HXX.out.1,HXX.out.2.1];exact hq2
            · by_cases qY2:0<Y2.length
              · exact absurd (by have h1:=HXX.out;have h2:=HX.out;have h3:=HM.out;have h4:=HLH.out;have h5:=HE.out;have h6:=congrArg List.length h1.1;have h7:=congrArg List.length h1.2.1;rw [Zf] at h6 h7;omega:False) id
              · exact absurd (by have h1:=HXX.out;have h2:=HX.out;have h3:=HM.out;have h4:=HLH.out;have h5:=HE.out;have h6:=congrArg List.length h1.1;have h7:=congrArg List.length h1.2.1;rw [Zf] at h6 h7;omega:False) id
          · by_cases qX2:0<X2.length
            · by_cases qY2:0<Y2.length
              · exact absurd (by have h1:=HXX.out;have h2:=HX.out;have h3:=HM.out;have h4:=HLH.out;have h5:=HE.out;have h6:=congrArg List.length h1.1;have h7:=congrArg List.length h1.2.1;rw [Zf] at h6 h7;omega:False) id
              · exact absurd (by have h1:=HXX.out;have h2:=HX.out;have h3:=HM.out;have h4:=HLH.out;have h5:=HE.out;have h6:=congrArg List.length h1.1;have h7:=congrArg List.length h1.2.1;rw [Zf] at h6 h7;omega:False) id
            · by_cases qY2:0<Y2.length
              · exact absurd (by have h1:=HXX.out;have h2:=HX.out;have h3:=HM.out;have h4:=HLH.out;have h5:=HE.out;have h6:=congrArg List.length h1.1;have h7:=congrArg List.length h1.2.1;rw [Zf] at h6 h7;omega:False) id
              · exact absurd (by have h1:=HXX.out;have h2:=HX.out;have h3:=HM.out;have h4:=HLH.out;have h5:=HE.out;have h6:=congrArg List.length h1.1;have h7:=congrArg List.length h1.2.1;rw [Zf] at h6 h7;omega:False) id
  · have hmmi : ¬ (mid:Int)<(m:Int):=by omega
    obtain ⟨lo,hlo⟩:∃ lo,a=lo:=⟨_,rfl⟩;obtain ⟨hi,hhi⟩:∃ hi,m=hi:=⟨_,rfl⟩;have HLH:=Za (p:=lo=a∧hi=m∧m≤mid) ⟨hlo.symm,hhi.symm,by omega⟩
    have HDOM:=Za (p:=lo≤hi∧hi≤m∧hi≤mid∧a≤lo∧∀ c,lo≤c→c<hi→a≤c∧c<m∧m≤pp - c∧pp - c<b∧c≤pp) (by
      have h1:=HM.out;have h2:=HX.out;have h3:=HLH.out;refine ⟨by omega,by omega,by omega,by omega,fun c h4 h5=>?_⟩;refine ⟨?_,?_,?_,?_,?_⟩ <;> omega)
    have HEND:=Za (p:=(∀ s,lo≤s→s≤hi→m≤nn - s∧nn - s≤b)∧(∀ s,s≤hi→s<m→m<nn - s→s<hi)∧(∀ s,lo≤s→a<s→nn - s<b→lo<s)) (by
      have h1:=HM.out;have h2:=HX.out;have h3:=HLH.out;refine ⟨fun s h4 h5=>?_,fun s h4 h5 h6=>?_,fun s h4 h5 h6=>?_⟩ <;> omega)
    clear hmm;subst hlo hhi;go_enter Tryz.func145,Tryz.ntmps145;go_wp2;go_loopw [20,21] (fun u v wr=>∃ s r:Nat,u=.int .i64 (s:Int)∧v=.int .i64 (r:Int)∧Hid (a≤s∧s≤r∧r≤m)∧Hid ((∀ c x y,a≤c→c<s→cur[c]?=some x→cur[pp - c]?=some y→x.ck≤y.ck)∧∀ c x y,r≤c→c<m→cur[c]?=some x→cur[pp - c]?=some y→y.ck<x.ck)∧Hid (ER wr gr cur Z)∧Hid (Chg [gr] w wr)) (fun u v _=>(intOf v).toNat - (intOf u).toNat)
    case atStart=>exact ⟨a,m,rfl,rfl,Za ⟨Zj _,HDOM.out.1,Zj _⟩,Za ⟨fun c x y h1 h2=>absurd h1 (by omega),fun c x y h1 h2=>absurd h1 (by omega)⟩,H,Za (Chg.refl _ _)⟩
    case round =>
      clear H;obtain ⟨s,r,rfl,rfl,HI,HB,HR,HC⟩:=hrel
      rename World=>wo;by_cases hij:s<r
      · have hiji:(s:Int)<(r:Int):=by omega
        obtain ⟨c,hce⟩:∃ c,(s+r) / 2=c:=⟨_,rfl⟩;have HH:=Za (p:=s≤c∧c<r) (by omega);obtain ⟨z1,z2,z3,z4,z5⟩:=half_ s r c hce (by have:=HI.out;have:=HX.out;have:=HDOM.out;omega);obtain ⟨c1,hc1⟩:∃ c1,c+1=c1:=⟨_,rfl⟩;have hcw:IntKind.i64.wrap ((c:Int)+1)=(c1:Int):=by rw [Zg];have:=HI.out;have:=HX.out;have:=HDOM.out;omega
        have HC1:=Za hc1;obtain ⟨sr,hsr⟩:∃ sr,s+r=sr:=⟨_,rfl⟩;rw [hsr] at z1 z2 z3;have hdom:=HDOM.out.2.2.2.2 c (by have:=HI.out;omega) (by have:=HI.out;omega);obtain ⟨d,hd⟩:∃ d,pp - c=d:=⟨_,rfl⟩;have HDD:=Za (p:=d+c=pp∧a≤c∧c<m∧m≤d∧d<b) (by omega);have hdw:IntKind.i64.wrap ((pp:Int) - (c:Int))=(d:Int):=by rw [Zg];have:=HDD.out;have:=HX.out;omega
        have hcn:(c:Int)<(n:Int):=by have:=HDD.out;have:=HX.out;omega
        have hdn:(d:Int)<(n:Int):=by have:=HDD.out;have:=HX.out;omega
        obtain ⟨x,hx⟩:∃ x,X[c - a]?=some x:=⟨_,Zh (by have:=HDD.out;have:=HX.out;omega)⟩;obtain ⟨y,hy⟩:∃ y,Y[d - m]?=some y:=⟨_,Zh (by have:=HDD.out;have:=HX.out;omega)⟩;have HXY:=Za (And.intro hx hy);have HGa:=Za (p:=cur[d]?=some y) (by rw [HGY.out d HDD.out.2.2.2.1 HDD.out.2.2.2.2];exact hy);have HGb:=Za (p:=cur[c]?=some x) (by rw [HGX.out c HDD.out.2.1 HDD.out.2.2.1];exact hx);have HRd:=Za (HR.out.kept (below_drw wo));have HCd:=Za (HC.out.drew);have HKd:=Za (HCd.out.cell HK.out.1 (by simp;exact HK.out.2));obtain ⟨cv,hcv⟩:∃ cv,cmpv y.ck x.ck=cv:=⟨_,rfl⟩;have HIJ:=Za hij;clear hij hce hc1 hsr hdom hd hx hy;by_cases hlt:y.ck<x.ck
        · have hc0:cv<0:=by rw [← hcv];exact (cmpv_neg _ _).2 hlt
          have HLT:=Za hlt;clear hlt;go_upto_region 35 with fail
          have HSQ:=Za (p:=∀ W,Below wo.drew.heap.size wo.drew W→W.rangeAt gr (d*5) (ecs y)∧W.rangeAt gr (c*5) (ecs x)) (fun W hb=>⟨(HRd.out.kept hb).at_ HGa.out,(HRd.out.kept hb).at_ HGb.out⟩);refine Zq (S:=fun W=>W.rangeAt gr (d*5) (ecs y)∧W.rangeAt gr (c*5) (ecs x)) (by kernel_rfl) (HSQ.out _ (Below.refl _ _)) (fun hHeld=>?_);refine Ze (i:=0) (oi:=⟨some 158,.move (.tmp 4),_,_,_,_⟩) (v:=.func (.func 121) #[] #[.pointer (some ⟨gk,0,none⟩)]) rfl (by kernel_rfl) (by kernel_rfl) (by kernel_rfl) (fun _ _ _ h=>h) (.inl ⟨by rfl,fun w hSw=>by go_simp⟩) (by assumption) ?_;simp only [Act.put,Zb,Zc,Zd];refine Ze (i:=1) (oi:=⟨some 159,.move (.tmp 0),_,_,_,_⟩) (v:=.slice (some ⟨gr,0,none⟩) n cp) rfl (by kernel_rfl) (by kernel_rfl) (by kernel_rfl) (fun _ _ _ h=>h) (.inl ⟨by rfl,fun w hSw=>by go_simp⟩) (by assumption) ?_;simp only [Act.put,Zb,Zc,Zd];refine Ze (i:=2) (oi:=⟨some 160,.move (.tmp 22),_,_,_,_⟩) (v:=.int .i64 (pp:Int)) rfl (by kernel_rfl) (by kernel_rfl) (by kernel_rfl) (fun _ _ _ h=>h) (.inl ⟨by rfl,fun w hSw=>by go_simp⟩) (by assumption) ?_;simp only [Act.put,Zb,Zc,Zd];refine Ze (i:=3) (oi:=⟨some 161,.move (.tmp 23),_,_,_,_⟩) (v:=.int .i64 (c:Int)) rfl (by kernel_rfl) (by kernel_rfl) (by kernel_rfl) (fun _ _ _ h=>h) (.inl ⟨by rfl,fun w hSw=>by go_simp⟩) (by assumption) ?_;simp only [Act.put,Zb,Zc,Zd];refine Ze (i:=4) (oi:=⟨some 162,.binOp .sub 3 (.tmp 160) (.tmp 161) 3,_,_,_,_⟩) (v:=.int .i64 (d:Int)) rfl (by kernel_rfl) (by kernel_rfl) (by kernel_rfl) (fun _ _ _ h=>h) (.inl ⟨by rfl,fun w hSw=>by go_simp⟩) (by assumption) ?_;simp only [Act.put,Zb,Zc,Zd];refine Ze (i:=5) (oi:=⟨some 163,.indexAddr 46 (.tmp 159) (.tmp 162),_,_,_,_⟩) (v:=.pointer (some ⟨gr,d*5,none⟩)) rfl (by kernel_rfl) (by kernel_rfl) (by kernel_rfl) (fun _ _ _ h=>h) (.inl ⟨by rfl,fun w hSw=>by go_simp⟩) (by assumption) ?_;simp only [Act.put,Zb,Zc,Zd];refine Ze (i:=6) (oi:=⟨some 164,.load 61 (.tmp 163),_,_,_,_⟩) (v:=.agg (ecs y).toArray) rfl (by kernel_rfl) (by kernel_rfl) (by kernel_rfl) (fun _ _ _ h=>h) (Yb (by rfl) 61 (.tmp 163) rfl gr (d*5) rfl (ecs y) _ (fun w hSw=>hSw.1) Yi rfl (info_ent y)) (by assumption) ?_;simp only [Act.put,Zb,Zc,Zd];refine Ze (i:=7) (oi:=⟨some 165,.move (.tmp 0),_,_,_,_⟩) (v:=.slice (some ⟨gr,0,none⟩) n cp) rfl (by kernel_rfl) (by kernel_rfl) (by kernel_rfl) (fun _ _ _ h=>h) (.inl ⟨by rfl,fun w hSw=>by go_simp⟩) (by assumption) ?_;simp only [Act.put,Zb,Zc,Zd];refine Ze (i:=8) (oi:=⟨some 166,.move (.tmp 23),_,_,_,_⟩) (v:=.int .i64 (c:Int)) rfl (by kernel_rfl) (by kernel_rfl) (by kernel_rfl) (fun _ _ _ h=>h) (.inl ⟨by rfl,fun w hSw=>by go_simp⟩) (by assumption) ?_;simp only [Act.put,Zb,Zc,Zd];refine Ze (i:=9) (oi:=⟨some 167,.indexAddr 46 (.tmp 165) (.tmp 166),_,_,_,_⟩) (v:=.pointer (some ⟨gr,c*5,none⟩)) rfl (by kernel_rfl) (by kernel_rfl) (by kernel_rfl) (fun _ _ _ h=>h) (.inl ⟨by rfl,fun w hSw=>by go_simp⟩) (by assumption) ?_;simp only [Act.put,Zb,Zc,Zd];refine Ze (i:=10) (oi:=⟨some 168,.load 61 (.tmp 167),_,_,_,_⟩) (v:=.agg (ecs x).toArray) rfl (by kernel_rfl) (by kernel_rfl) (by kernel_rfl) (fun _ _ _ h=>h) (Yb (by rfl) 61 (.tmp 167) rfl gr (c*5) rfl (ecs x) _ (fun w hSw=>hSw.2) Yi rfl (info_ent x)) (by assumption) ?_;simp only [Act.put,Zb,Zc,Zd];refine Zp (rs:=[11]) (by kernel_rfl) (by simp) ?_;refine Zl (o:=⟨some 169,.call ⟨.value (.tmp 158),#[.tmp 164,.tmp 168],_⟩,_,_,_,_⟩) rfl (fun K hK=>?_) Zo;go_simp;go_at_call 121;refine (bycmp_any y x gk _ HKd.out).mono ?_;rintro e wd ⟨rfl,hb⟩;rw [hcv];have HBd:=Za hb;clear hb;refine hK.out _ _ (HSQ.out _ HBd.out) (fun _hc=>?_);clear hK K;refine Ze (i:=12) (oi:=⟨some 170,.binOp .lss 3 (.tmp 169) (.const (.int .i64 0)) 3,_,_,_,_⟩) (v:=.bool true) rfl (by kernel_rfl) (by kernel_rfl) (by kernel_rfl) (fun _ _ _ h=>h) (.inl ⟨by rfl,fun w hSw=>by go_simp⟩) (by assumption) ?_;simp only [Act.put,Zb,Zc,Zd];refine Ze (i:=13) (oi:=⟨some 171,.unOp .not 4 (.tmp 170),_,_,_,_⟩) (v:=.bool false) rfl (by kernel_rfl) (by kernel_rfl) (by kernel_rfl) (fun _ _ _ h=>h) (.inl ⟨by rfl,fun w hSw=>by go_simp⟩) (by assumption) ?_;simp only [Act.put,Zb,Zc,Zd];refine Yg (by kernel_rfl) ?_ _;have HR9:=Za (HRd.out.kept HBd.out);have HC9:=Za (HCd.out.trans (Chg.of (F:=[gr]) HBd.out) (fun z hz=>.inl hz));clear HRd HCd HKd HSQ HR HC;go_wp2_with fail;go_roundw
          case rel=>exact ⟨s,c,rfl,rfl,Za (by have:=HI.out;have:=HH.out;omega),Za ⟨HB.out.1,fun c' x' y' h1 h2 hx' hy'=>by
              have h3:=HDOM.out.2.2.2.2 c' (by have:=HI.out;have:=HH.out;omega) h2;have h4:=HDD.out;rw [HGX.out c' h3.1 h3.2.1] at hx';rw [HGY.out (pp - c') h3.2.2.1 h3.2.2.2.1] at hy';have h5:=HO.out.1.get HXY.out.1 hx' (by omega);have h6:=HO.out.2.get hy' HXY.out.2 (by omega);have:=HLT.out;omega⟩,HR9,HC9⟩
          case measure=>have:=HIJ.out;have:=HH.out;simp [intOf];omega
        · have hc0:¬ cv<0:=by rw [← hcv];exact fun h=>hlt ((cmpv_neg _ _).1 h)
          have HLT:=Za (p:=x.ck≤y.ck) (by omega);clear hlt;go_upto_region 35 with fail
          have HSQ:=Za (p:=∀ W,Below wo.drew.heap.size wo.drew W→W.rangeAt gr (d*5) (ecs y)∧W.rangeAt gr (c*5) (ecs x)) (fun W hb=>⟨(HRd.out.kept hb).at_ HGa.out,(HRd.out.kept hb).at_ HGb.out⟩);refine Zq (S:=fun W=>W.rangeAt gr (d*5) (ecs y)∧W.rangeAt gr (c*5) (ecs x)) (by kernel_rfl) (HSQ.out _ (Below.refl _ _)) (fun hHeld=>?_);refine Ze (i:=0) (oi:=⟨some 158,.move (.tmp 4),_,_,_,_⟩) (v:=.func (.func 121) #[] #[.pointer (some ⟨gk,0,none⟩)]) rfl (by kernel_rfl) (by kernel_rfl) (by kernel_rfl) (fun _ _ _ h=>h) (.inl ⟨by rfl,fun w hSw=>by go_simp⟩) (by assumption) ?_;simp only [Act.put,Zb,Zc,Zd];refine Ze (i:=1) (oi:=⟨some 159,.move (.tmp 0),_,_,_,_⟩) (v:=.slice (some ⟨gr,0,none⟩) n cp) rfl (by kernel_rfl) (by kernel_rfl) (by kernel_rfl) (fun _ _ _ h=>h) (.inl ⟨by rfl,fun w hSw=>by go_simp⟩) (by assumption) ?_;simp only [Act.put,Zb,Zc,Zd];refine Ze (i:=2) (oi:=⟨some 160,.move (.tmp 22),_,_,_,_⟩) (v:=.int .i64 (pp:Int)) rfl (by kernel_rfl) (by kernel_rfl) (by kernel_rfl) (fun _ _ _ h=>h) (.inl ⟨by rfl,fun w hSw=>by go_simp⟩) (by assumption) ?_;simp only [Act.put,Zb,Zc,Zd];refine Ze (i:=3) (oi:=⟨some 161,.move (.tmp 23),_,_,_,_⟩) (v:=.int .i64 (c:Int)) rfl (by kernel_rfl) (by kernel_rfl) (by kernel_rfl) (fun _ _ _ h=>h) (.inl ⟨by rfl,fun w hSw=>by go_simp⟩) (by assumption) ?_;simp only [Act.put,Zb,Zc,Zd];refine Ze (i:=4) (oi:=⟨some 162,.binOp .sub 3 (.tmp 160) (.tmp 161) 3,_,_,_,_⟩) (v:=.int .i64 (d:Int)) rfl (by kernel_rfl) (by kernel_rfl) (by kernel_rfl) (fun _ _ _ h=>h) (.inl ⟨by rfl,fun w hSw=>by go_simp⟩) (by assumption) ?_;simp only [Act.put,Zb,Zc,Zd];refine Ze (i:=5) (oi:=⟨some 163,.indexAddr 46 (.tmp 159) (.tmp 162),_,_,_,_⟩) (v:=.pointer (some ⟨gr,d*5,none⟩)) rfl (by kernel_rfl) (by kernel_rfl) (by kernel_rfl) (fun _ _ _ h=>h) (.inl ⟨by rfl,fun w hSw=>by go_simp⟩) (by assumption) ?_;simp only [Act.put,Zb,Zc,Zd];refine Ze (i:=6) (oi:=⟨some 164,.load 61 (.tmp 163),_,_,_,_⟩) (v:=.agg (ecs y).toArray) rfl (by kernel_rfl) (by kernel_rfl) (by kernel_rfl) (fun _ _ _ h=>h) (Yb (by rfl) 61 (.tmp 163) rfl gr (d*5) rfl (ecs y) _ (fun w hSw=>hSw.1) Yi rfl (info_ent y)) (by assumption) ?_;simp only [Act.put,Zb,Zc,Zd];refine Ze (i:=7) (oi:=⟨some 165,.move (.tmp 0),_,_,_,_⟩) (v:=.slice (some ⟨gr,0,none⟩) n cp) rfl (by kernel_rfl) (by kernel_rfl) (by kernel_rfl) (fun _ _ _ h=>h) (.inl ⟨by rfl,fun w hSw=>by go_simp⟩) (by assumption) ?_;simp only [Act.put,Zb,Zc,Zd];refine Ze (i:=8) (oi:=⟨some 166,.move (.tmp 23),_,_,_,_⟩) (v:=.int .i64 (c:Int)) rfl (by kernel_rfl) (by kernel_rfl) (by kernel_rfl) (fun _ _ _ h=>h) (.inl ⟨by rfl,fun w hSw=>by go_simp⟩) (by assumption) ?_;simp only [Act.put,Zb,Zc,Zd];refine Ze (i:=9) (oi:=⟨some 167,.indexAddr 46 (.tmp 165) (.tmp 166),_,_,_,_⟩) (v:=.pointer (some ⟨gr,c*5,none⟩)) rfl (by kernel_rfl) (by kernel_rfl) (by kernel_rfl) (fun _ _ _ h=>h) (.inl ⟨by rfl,fun w hSw=>by go_simp⟩) (by assumption) ?_;simp only [Act.put,Zb,Zc,Zd];refine Ze (i:=10) (oi:=⟨some 168,.load 61 (.tmp 167),_,_,_,_⟩) (v:=.agg (ecs x).toArray) rfl (by kernel_rfl) (by kernel_rfl) (by kernel_rfl) (fun _ _ _ h=>h) (Yb (by rfl) 61 (.tmp 167) rfl gr (c*5) rfl (ecs x) _ (fun w hSw=>hSw.2) Yi rfl (info_ent x)) (by assumption) ?_;simp only [Act.put,Zb,Zc,Zd];refine Zp (rs:=[11]) (by kernel_rfl) (by simp) ?_;refine Zl (o:=⟨some 169,.call ⟨.value (.tmp 158),#[.tmp 164,.tmp 168],_⟩,_,_,_,_⟩) rfl (fun K hK=>?_) Zo;go_simp;go_at_call 121;refine (bycmp_any y x gk _ HKd.out).mono ?_;rintro e wd ⟨rfl,hb⟩;rw [hcv];have HBd:=Za hb;clear hb;refine hK.out _ _ (HSQ.out _ HBd.out) (fun _hc=>?_);clear hK K;refine Ze (i:=12) (oi:=⟨some 170,.binOp .lss 3 (.tmp 169) (.const (.int .i64 0)) 3,_,_,_,_⟩) (v:=.bool false) rfl (by kernel_rfl) (by kernel_rfl) (by kernel_rfl) (fun _ _ _ h=>h) (.inl ⟨by rfl,fun w hSw=>by go_simp⟩) (by assumption) ?_;simp only [Act.put,Zb,Zc,Zd];refine Ze (i:=13) (oi:=⟨some 171,.unOp .not 4 (.tmp 170),_,_,_,_⟩) (v:=.bool true) rfl (by kernel_rfl) (by kernel_rfl) (by kernel_rfl) (fun _ _ _ h=>h) (.inl ⟨by rfl,fun w hSw=>by go_simp⟩) (by assumption) ?_;simp only [Act.put,Zb,Zc,Zd];refine Yg (by kernel_rfl) ?_ _;have HR9:=Za (HRd.out.kept HBd.out);have HC9:=Za (HCd.out.trans (Chg.of (F:=[gr]) HBd.out) (fun z hz=>.inl hz));clear HRd HCd HKd HSQ HR HC;go_wp2_with fail;go_roundw
          case rel=>exact ⟨c1,r,rfl,rfl,Za (by have:=HI.out;have:=HH.out;have:=HC1.out;omega),Za ⟨fun c' x' y' h1 h2 hx' hy'=>by
              have h3:=HDOM.out.2.2.2.2 c' h1 (by have:=HI.out;have:=HH.out;have:=HC1.out;omega);have h4:=HDD.out;rw [HGX.out c' h3.1 h3.2.1] at hx';rw [HGY.out (pp - c') h3.2.2.1 h3.2.2.2.1] at hy';have h5:=HO.out.1.get hx' HXY.out.1 (by have:=HC1.out;omega);have h6:=HO.out.2.get HXY.out.2 hy' (by have:=HC1.out;omega);have:=HLT.out;omega,HB.out.2⟩,HR9,HC9⟩
          case measure=>have:=HIJ.out;have:=HH.out;have:=HC1.out;simp [intOf];omega
      · have hiji : ¬ (s:Int)<(r:Int):=by omega
        have hije:s=r:=by have:=HI.out;omega
        subst hije;clear hij;obtain ⟨en,hen⟩:∃ en,nn - s=en:=⟨_,rfl⟩;have hE:=HEND.out.1 s HI.out.1 HI.out.2.2;have HE:=Za (p:=en+s=nn∧m≤en∧en≤b∧a≤s∧s≤m∧s≤mid) (by have:=HI.out;have:=HDOM.out;have:=HM.out;omega);have hew:IntKind.i64.wrap ((nn:Int) - (s:Int))=(en:Int):=by rw [Zg];have:=HE.out;have:=HX.out;have:=HM.out;omega
        clear hen hE;obtain ⟨X1,X2,hX12,hX1⟩:∃ X1 X2,X=X1++X2∧X1.length=s - a:=⟨X.take (s - a),X.drop (s - a),(List.take_append_drop _ _).symm,by rw [Zu];have:=HE.out;have:=HX.out;omega⟩;obtain ⟨Y1,Y2,hY12,hY1⟩:∃ Y1 Y2,Y=Y1++Y2∧Y1.length=en - m:=⟨Y.take (en - m),Y.drop (en - m),(List.take_append_drop _ _).symm,by rw [Zu];have:=HE.out;have:=HX.out;omega⟩
        have HXX:=Za (p:=X=X1++X2∧Y=Y1++Y2∧a+X1.length=s∧s+X2.length=m∧m+Y1.length=en∧en+Y2.length=b∧s+Y1.length=mid∧mid+X2.length=en) (by
          have h1:=HE.out;have h2:=HX.out;have h3:=HM.out;have h4:=congrArg List.length hX12;have h5:=congrArg List.length hY12;rw [Zf] at h4 h5;exact ⟨hX12,hY12,by omega,by omega,by omega,by omega,by omega,by omega⟩)
        clear hX12 hX1 hY12 hY1;have HOX:=Za (p:=Ord Ent.ck (X1++X2)∧Ord Ent.ck (Y1++Y2)) ⟨by rw [← HXX.out.1];exact HO.out.1,by rw [← HXX.out.2.1];exact HO.out.2⟩
        have HLOW:=Za (p:=∀ y ∈ Y1,∀ x ∈ X2,y.ck<x.ck) (fun y hy x hx=>by
          have h1:=HXX.out;have h2:=HX.out;have h3:=HE.out;obtain ⟨q,hq⟩:=List.mem_iff_getElem?.1 hy;obtain ⟨t,ht⟩:=List.mem_iff_getElem?.1 hx;have hql:=(Zn.1 hq).1;have htl:=(Zn.1 ht).1;have hsh:=HEND.out.2.1 s HI.out.2.2 (by omega) (by omega);obtain ⟨xs,hxs⟩:∃ xs,X[s - a]?=some xs:=⟨_,Zh (by omega)⟩;obtain ⟨ye,hye⟩:∃ ye,Y[en - 1 - m]?=some ye:=⟨_,Zh (by omega)⟩;have h4:=HB.out.2 s xs ye (Zj _) hsh (by rw [HGX.out s (by omega) (by omega)];exact hxs) (by rw [show pp - s=en - 1 by have:=HM.out;omega,HGY.out (en - 1) (by omega) (by omega)];exact hye);have h5:=HO.out.1.get hxs (show X[s - a+t]?=some x by rw [h1.1,Zm (by omega),show s - a+t - X1.length=t by omega];exact ht) (by omega);have h6:=HO.out.2.get (show Y[q]?=some y by rw [h1.2.1,Zv hql];exact hq) hye (by omega);omega)
        have HHIG:=Za (p:=∀ x ∈ X1,∀ y ∈ Y2,x.ck≤y.ck) (fun x hx y hy=>by
          have h1:=HXX.out;have h2:=HX.out;have h3:=HE.out;obtain ⟨t,ht⟩:=List.mem_iff_getElem?.1 hx;obtain ⟨q,hq⟩:=List.mem_iff_getElem?.1 hy;have hql:=(Zn.1 hq).1;have htl:=(Zn.1 ht).1;have hsh:=HEND.out.2.2 s HI.out.1 (by omega) (by omega);obtain ⟨xs,hxs⟩:∃ xs,X[s - 1 - a]?=some xs:=⟨_,Zh (by omega)⟩;obtain ⟨ye,hye⟩:∃ ye,Y[en - m]?=some ye:=⟨_,Zh (by omega)⟩;have h4:=HB.out.1 (s - 1) xs ye (by omega) (by omega) (by rw [HGX.out (s - 1) (by omega) (by omega)];exact hxs) (by rw [show pp - (s - 1)=en by have:=HM.out;omega,HGY.out en (by omega) (by omega)];exact hye);have h5:=HO.out.1.get (show X[t]?=some x by rw [h1.1,Zv htl];exact ht) hxs (by omega);have h6:=HO.out.2.get hye (show Y[en - m+q]?=some y by rw [h1.2.1,Zm (by omega),show en - m+q - Y1.length=q by omega];exact hq) (by omega);omega)
        have HK1:=Za (HC.out.cell HK.out.1 (by simp;exact HK.out.2));have HRX:=Za (p:=ER wo gr (P++(X1++(X2++(Y1++(Y2++S))))) Z) (by have h9:=HR.out;rw [← HCUR.out,HXX.out.1,HXX.out.2.1] at h9;simpa only [Zi] using h9);by_cases qX1:0<X1.length
        · by_cases qY1:0<Y1.length
          · by_cases qX2:0<X2.length
            · by_cases qY2:0<Y2.length
              · have HPOS:=Za (p:=True∧0<X2.length∧0<Y1.length∧(0<X1.length∧0<Y1.length)∧(0<X2.length∧0<Y2.length)) (by refine ⟨?_,?_,?_,?_,?_⟩ <;> first | trivial | omega);have g1:(s:Int)<(m:Int):=by have:=HXX.out;omega
                have g2:(m:Int)<(en:Int):=by have:=HXX.out;omega
                have g3:(a:Int)<(s:Int):=by have:=HXX.out;omega
                have g4:(s:Int)<(mid:Int):=by have:=HXX.out;omega
                have g5:(mid:Int)<(en:Int):=by have:=HXX.out;omega
                have g6:(en:Int)<(b:Int):=by have:=HXX.out;omega
                clear qX1 qY1 qX2 qY2
                go_wp2_with (first
                  | (go_at_call 151;refine (rotate_any gr n cp s m en _ (P++X1) X2 Y1 (Y2++S) Z (by rw [Zf];have:=HX.out;have:=HXX.out;omega) HXX.out.2.2.2.1 HXX.out.2.2.2.2.1 (by rw [Zf];have:=HX.out;have:=HXX.out;omega) HPOS.out.2.1 HPOS.out.2.2.1 HX.out.2.2.2.2.1 _ (by have h9:=HRX.out;simpa only [Zi] using h9)).mono ?_;rintro e w2 ⟨rfl,hr,hc⟩;have HR2:=Za (p:=ER w2 gr (P++(X1++(Y1++(X2++(Y2++S))))) Z) (by simpa only [Zi] using hr)
                     have HC2:=Za (HC.out.trans hc (fun z hz=>.inl hz));have HK2:=Za (hc.cell HK1.out (by simp;exact HK.out.2));clear hr hc)
                  | (go_at_call_of 145 (Value.int IntKind.i64 (mid:Int));(fail_if_success (have:=HML));refine (IH.out a s mid (by have:=HX.out;have:=HM.out;omega) P X1 Y1 (X2++(Y2++S)) _ HX.out.1 HXX.out.2.2.1 HXX.out.2.2.2.2.2.2.1 (by simp only [Zf];have:=HX.out;have:=HXX.out;omega) (by have:=HPOS.out;omega) (by have:=HPOS.out;omega) HOX.out.1.left HOX.out.2.left HK2.out HK.out.2 HR2.out).mono ?_;rintro e w3 ⟨rfl,M1,hr,ho,hs,hc⟩;have HR3:=Za hr
                     have HC3:=Za (HC2.out.trans hc (fun z hz=>.inl hz));have HK3:=Za (hc.cell HK2.out (by simp;exact HK.out.2));have HM1:=Za (And.intro ho hs);have HML:=Za True.intro;clear hr ho hs hc)
                  | (go_at_call_of 145 (Value.int IntKind.i64 (en:Int));refine (IH.out mid en b (by have:=HX.out;have:=HM.out;omega) (P++M1) X2 Y2 S _ (by rw [Zf];have h9:=HM1.out.2.len;rw [Zf] at h9;have:=HX.out;have:=HXX.out;omega) HXX.out.2.2.2.2.2.2.2 HXX.out.2.2.2.2.2.1 HX.out.2.2.2.1 (by have:=HPOS.out;omega) (by have:=HPOS.out;omega) HOX.out.1.right HOX.out.2.right HK3.out HK.out.2 (by have h9:=HR3.out;simpa only [Zi] using h9)).mono ?_;rintro e w4 ⟨rfl,M2,hr,ho,hs,hc⟩;have HR4:=Za (p:=ER w4 gr (P++(M1++(M2++S))) Z) (by simpa only [Zi] using hr)
                     have HC4:=Za (HC3.out.trans hc (fun z hz=>.inl hz));have HM2:=Za (And.intro ho hs);clear hr ho hs hc))
                go_end0;obtain ⟨hq1,hq2⟩:=mg_whole HOX.out.1 HOX.out.2 HLOW.out HHIG.out HM1.out.1 HM2.out.1 HM1.out.2 HM2.out.2;refine ⟨rfl,M1++M2,?_,hq1,?_,HC4.out⟩
                · have h9:=HR4.out;simpa only [Zi] using h9
                · rw [HXX.out.1,HXX.out.2.1];exact hq2
              · have HPOS:=Za (p:=True∧0<X2.length∧0<Y1.length∧(0<X1.length∧0<Y1.length)∧(X2.length=0∨Y2.length=0)) (by refine ⟨?_,?_,?_,?_,?_⟩ <;> first | trivial | omega);have g1:(s:Int)<(m:Int):=by have:=HXX.out;omega
                have g2:(m:Int)<(en:Int):=by have:=HXX.out;omega
                have g3:(a:Int)<(s:Int):=by have:=HXX.out;omega
                have g4:(s:Int)<(mid:Int):=by have:=HXX.out;omega
                have g5:(mid:Int)<(en:Int):=by have:=HXX.out;omega
                have g6:¬ (en:Int)<(b:Int):=by have:=HXX.out;omega
                clear qX1 qY1 qX2 qY2
                go_wp2_with (first
                  | (go_at_call 151;refine (rotate_any gr n cp s m en _ (P++X1) X2 Y1 (Y2++S) Z (by rw [Zf];have:=HX.out;have:=HXX.out;omega) HXX.out.2.2.2.1 HXX.out.2.2.2.2.1 (by rw [Zf];have:=HX.out;have:=HXX.out;omega) HPOS.out.2.1 HPOS.out.2.2.1 HX.out.2.2.2.2.1 _ (by have h9:=HRX.out;simpa only [Zi] using h9)).mono ?_;rintro e w2 ⟨rfl,hr,hc⟩;have HR2:=Za (p:=ER w2 gr (P++(X1++(Y1++(X2++(Y2++S))))) Z) (by simpa only [Zi] using hr)
                     have HC2:=Za (HC.out.trans hc (fun z hz=>.inl hz));have HK2:=Za (hc.cell HK1.out (by simp;exact HK.out.2));clear hr hc)
                  | (go_at_call_of 145 (Value.int IntKind.i64 (mid:Int));(fail_if_success (have:=HML));refine (IH.out a s mid (by have:=HX.out;have:=HM.out;omega) P X1 Y1 (X2++(Y2++S)) _ HX.out.1 HXX.out.2.2.1 HXX.out.2.2.2.2.2.2.1 (by simp only [Zf];have:=HX.out;have:=HXX.out;omega) (by have:=HPOS.out;omega) (by have:=HPOS.out;omega) HOX.out.1.left HOX.out.2.left HK2.out HK.out.2 HR2.out).mono ?_;rintro e w3 ⟨rfl,M1,hr,ho,hs,hc⟩;have HR3:=Za hr
                     have HC3:=Za (HC2.out.trans hc (fun z hz=>.inl hz));have HK3:=Za (hc.cell HK2.out (by simp;exact HK.out.2));have HM1:=Za (And.intro ho hs);have HML:=Za True.intro;clear hr ho hs hc))
                go_end0
                have hO2:Ord Ent.ck (X2++Y2):=by
                  rcases HPOS.out.2.2.2.2 with h0 | h0
                  · rw [Zk h0,Zt];exact HOX.out.2.right
                  · rw [Zk h0,Zy];exact HOX.out.1.right
                obtain ⟨hq1,hq2⟩:=mg_whole HOX.out.1 HOX.out.2 HLOW.out HHIG.out HM1.out.1 hO2 HM1.out.2 (SameK.refl _);refine ⟨rfl,M1++(X2++Y2),?_,hq1,?_,HC3.out⟩
                · have h9:=HR3.out;simpa only [Zi] using h9
                · rw [HXX.out.1,HXX.out.2.1];exact hq2
            · by_cases qY2:0<Y2.length
              · have HPOS:=Za (p:=(X2.length=0∨Y1.length=0)∧True∧True∧(0<X1.length∧0<Y1.length)∧(X2.length=0∨Y2.length=0)) (by refine ⟨?_,?_,?_,?_,?_⟩ <;> first | trivial | omega);have g1:¬ (s:Int)<(m:Int):=by have:=HXX.out;omega
                have g2:(m:Int)<(en:Int):=by have:=HXX.out;omega
                have g3:(a:Int)<(s:Int):=by have:=HXX.out;omega
                have g4:(s:Int)<(mid:Int):=by have:=HXX.out;omega
                have g5:¬ (mid:Int)<(en:Int):=by have:=HXX.out;omega
                have g6:(en:Int)<(b:Int):=by have:=HXX.out;omega
                clear qX1 qY1 qX2 qY2
                have HR2:=Za (p:=ER wo gr (P++(X1++(Y1++(X2++(Y2++S))))) Z) (by
                  have h9:=HRX.out;rcases HPOS.out.1 with h0 | h0
                  · rw [Zk h0] at h9 ⊢;simpa only [Zi,Zt] using h9
                  · rw [Zk h0] at h9 ⊢;simpa only [Zi,Zt] using h9)
                have HC2:=HC;have HK2:=HK1
                go_wp2_with (first
                  | (go_at_call_of 145 (Value.int IntKind.i64 (mid:Int));(fail_if_success (have:=HML));refine (IH.out a s mid (by have:=HX.out;have:=HM.out;omega) P X1 Y1 (X2++(Y2++S)) _ HX.out.1 HXX.out.2.2.1 HXX.out.2.2.2.2.2.2.1 (by simp only [Zf];have:=HX.out;have:=HXX.out;omega) (by have:=HPOS.out;omega) (by have:=HPOS.out;omega) HOX.out.1.left HOX.out.2.left HK2.out HK.out.2 HR2.out).mono ?_;rintro e w3 ⟨rfl,M1,hr,ho,hs,hc⟩;have HR3:=Za hr
                     have HC3:=Za (HC2.out.trans hc (fun z hz=>.inl hz));have HK3:=Za (hc.cell HK2.out (by simp;exact HK.out.2));have HM1:=Za (And.intro ho hs);have HML:=Za True.intro;clear hr ho hs hc))
                go_end0
                have hO2:Ord Ent.ck (X2++Y2):=by
                  rcases HPOS.out.2.2.2.2 with h0 | h0
                  · rw [Zk h0,Zt];exact HOX.out.2.right
                  · rw [Zk h0,Zy];exact HOX.out.1.right
                obtain ⟨hq1,hq2⟩:=mg_whole HOX.out.1 HOX.out.2 HLOW.out HHIG.out HM1.out.1 hO2 HM1.out.2 (SameK.refl _);refine ⟨rfl,M1++(X2++Y2),?_,hq1,?_,HC3.out⟩
                · have h9:=HR3.out;simpa only [Zi] using h9
                · rw [HXX.out.1,HXX.out.2.1];exact hq2
              · exact absurd (by have h1:=HXX.out;have h2:=HX.out;have h3:=HM.out;have h4:=HLH.out;have h5:=HE.out;have h6:=congrArg List.length h1.1;have h7:=congrArg List.length h1.2.1;rw [Zf] at h6 h7;omega:False) id
          · by_cases qX2:0<X2.length
            · by_cases qY2:0<Y2.length
              · exact absurd (by have h1:=HXX.out;have h2:=HX.out;have h3:=HM.out;have h4:=HLH.out;have h5:=HE.out;have h6:=congrArg List.length h1.1;have h7:=congrArg List.length h1.2.1;rw [Zf] at h6 h7;omega:False) id
              · exact absurd (by have h1:=HXX.out;have h2:=HX.out;have h3:=HM.out;have h4:=HLH.out;have h5:=HE.out;have h6:=congrArg List.length h1.1;have h7:=congrArg List.length h1.2.1;rw [Zf] at h6 h7;omega:False) id
            · by_cases qY2:0<Y2.length
              · have HPOS:=Za (p:=(X2.length=0∨Y1.length=0)∧True∧True∧(X1.length=0∨Y1.length=0)∧(X2.length=0∨Y2.length=0)) (by refine ⟨?_,?_,?_,?_,?_⟩ <;> first | trivial | omega);have g1:¬ (s:Int)<(m:Int):=by have:=HXX.out;omega
                have g2:¬ (m:Int)<(en:Int):=by have:=HXX.out;omega
                have g3:(a:Int)<(s:Int):=by have:=HXX.out;omega
                have g4:¬ (s:Int)<(mid:Int):=by have:=HXX.out;omega
                have g5:¬ (mid:Int)<(en:Int):=by have:=HXX.out;omega
                have g6:(en:Int)<(b:Int):=by have:=HXX.out;omega
                clear qX1 qY1 qX2 qY2
                have HR2:=Za (p:=ER wo gr (P++(X1++(Y1++(X2++(Y2++S))))) Z) (by
                  have h9:=HRX.out;rcases HPOS.out.1 with h0 | h0
                  · rw [Zk h0] at h9 ⊢;simpa only [Zi,Zt] using h9
                  · rw [Zk h0] at h9 ⊢;simpa only [Zi,Zt] using h9)
                have HC2:=HC;have HK2:=HK1;go_wp2;go_end0
                have hO1:Ord Ent.ck (X1++Y1):=by
                  rcases HPOS.out.2.2.2.1 with h0 | h0
                  · rw [Zk h0,Zt];exact HOX.out.2.left
                  · rw [Zk h0,Zy];exact HOX.out.1.left
                have hO2:Ord Ent.ck (X2++Y2):=by
                  rcases HPOS.out.2.2.2.2 with h0 | h0
                  · rw [Zk h0,Zt];exact HOX.out.2.right
                  · rw [Zk h0,Zy];exact HOX.out.1.right
                obtain ⟨hq1,hq2⟩:=mg_whole HOX.out.1 HOX.out.2 HLOW.out HHIG.out hO1 hO2 (SameK.refl _) (SameK.refl _);refine ⟨rfl,(X1++Y1)++(X2++Y2),?_,hq1,?_,HC2.out⟩
                · have h9:=HR2.out;simpa only [Zi] using h9
                · rw [HXX.out.1,HXX.out.2.1];exact hq2
              · exact absurd (by have h1:=HXX.out;have h2:=HX.out;have h3:=HM.out;have h4:=HLH.out;have h5:=HE.out;have h6:=congrArg List.length h1.1;have h7:=congrArg List.length h1.2.1;rw [Zf] at h6 h7;omega:False) id
        · by_cases qY1:0<Y1.length
          · by_cases qX2:0<X2.length
            · by_cases qY2:0<Y2.length
              · have HPOS:=Za (p:=True∧0<X2.length∧0<Y1.length∧(X1.length=0∨Y1.length=0)∧(0<X2.length∧0<Y2.length)) (by refine ⟨?_,?_,?_,?_,?_⟩ <;> first | trivial | omega);have g1:(s:Int)<(m:Int):=by have:=HXX.out;omega
                have g2:(m:Int)<(en:Int):=by have:=HXX.out;omega
                have g3:¬ (a:Int)<(s:Int):=by have:=HXX.out;omega
                have g4:(s:Int)<(mid:Int):=by have:=HXX.out;omega
                have g5:(mid:Int)<(en:Int):=by have:=HXX.out;omega
                have g6:(en:Int)<(b:Int):=by have:=HXX.out;omega
                clear qX1 qY1 qX2 qY2
                go_wp2_with (first
                  | (go_at_call 151;refine (rotate_any gr n cp s m en _ (P++X1) X2 Y1 (Y2++S) Z (by rw [Zf];have:=HX.out;have:=HXX.out;omega) HXX.out.2.2.2.1 HXX.out.2.2.2.2.1 (by rw [Zf];have:=HX.out;have:=HXX.out;omega) HPOS.out.2.1 HPOS.out.2.2.1 HX.out.2.2.2.2.1 _ (by have h9:=HRX.out;simpa only [Zi] using h9)).mono ?_;rintro e w2 ⟨rfl,hr,hc⟩;have HR2:=Za (p:=ER w2 gr (P++(X1++(Y1++(X2++(Y2++S))))) Z) (by simpa only [Zi] using hr)
                     have HC2:=Za (HC.out.trans hc (fun z hz=>.inl hz));have HK2:=Za (hc.cell HK1.out (by simp;exact HK.out.2));clear hr hc)
                  | (go_at_call_of 145 (Value.int IntKind.i64 (en:Int));refine (IH.out mid en b (by have:=HX.out;have:=HM.out;omega) (P++(X1++Y1)) X2 Y2 S _ (by simp only [Zf];have:=HX.out;have:=HXX.out;omega) HXX.out.2.2.2.2.2.2.2 HXX.out.2.2.2.2.2.1 HX.out.2.2.2.1 (by have:=HPOS.out;omega) (by have:=HPOS.out;omega) HOX.out.1.right HOX.out.2.right HK2.out HK.out.2 (by have h9:=HR2.out;simpa only [Zi] using h9)).mono ?_;rintro e w4 ⟨rfl,M2,hr,ho,hs,hc⟩;have HR4:=Za (p:=ER w4 gr (P++((X1++Y1)++(M2++S))) Z) (by simpa only [Zi] using hr)
                     have HC4:=Za (HC2.out.trans hc (fun z hz=>.inl hz));have HM2:=Za (And.intro ho hs);clear hr ho hs hc))
                go_end0
                have hO1:Ord Ent.ck (X1++Y1):=by
                  rcases HPOS.out.2.2.2.1 with h0 | h0
                  · rw [Zk h0,Zt];exact HOX.out.2.left
                  · rw [Zk h0,Zy];exact HOX.out.1.left
                obtain ⟨hq1,hq2⟩:=mg_whole HOX.out.1 HOX.out.2 HLOW.out HHIG.out hO1 HM2.out.1 (SameK.refl _) HM2.out.2;refine ⟨rfl,(X1++Y1)++M2,?_,hq1,?_,HC4.out⟩
                · have h9:=HR4.out;simpa only [Zi] using h9
                · rw [HXX.out.1,HXX.out.2.1];exact hq2
              · have HPOS:=Za (p:=True∧0<X2.length∧0<Y1.length∧(X1.length=0∨Y1.length=0)∧(X2.length=0∨Y2.length=0)) (by refine ⟨?_,?_,?_,?_,?_⟩ <;> first | trivial | omega);have g1:(s:Int)<(m:Int):=by have:=HXX.out;omega
                have g2:(m:Int)<(en:Int):=by have:=HXX.out;omega
                have g3:¬ (a:Int)<(s:Int):=by have:=HXX.out;omega
                have g4:(s:Int)<(mid:Int):=by have:=HXX.out;omega
                have g5:(mid:Int)<(en:Int):=by have:=HXX.out;omega
                have g6:¬ (en:Int)<(b:Int):=by have:=HXX.out;omega
                clear qX1 qY1 qX2 qY2
                go_wp2_with (first
                  | (go_at_call 151;refine (rotate_any gr n cp s m en _ (P++X1) X2 Y1 (Y2++S) Z (by rw [Zf];have:=HX.out;have:=HXX.out;omega) HXX.out.2.2.2.1 HXX.out.2.2.2.2.1 (by rw [Zf];have:=HX.out;have:=HXX.out;omega) HPOS.out.2.1 HPOS.out.2.2.1 HX.out.2.2.2.2.1 _ (by have h9:=HRX.out;simpa only [Zi] using h9)).mono ?_;rintro e w2 ⟨rfl,hr,hc⟩;have HR2:=Za (p:=ER w2 gr (P++(X1++(Y1++(X2++(Y2++S))))) Z) (by simpa only [Zi] using hr)
                     have HC2:=Za (HC.out.trans hc (fun z hz=>.inl hz));have HK2:=Za (hc.cell HK1.out (by simp;exact HK.out.2));clear hr hc))
                go_end0
                have hO1:Ord Ent.ck (X1++Y1):=by
                  rcases HPOS.out.2.2.2.1 with h0 | h0
                  · rw [Zk h0,Zt];exact HOX.out.2.left
                  · rw [Zk h0,Zy];exact HOX.out.1.left
                have hO2:Ord Ent.ck (X2++Y2):=by
                  rcases HPOS.out.2.2.2.2 with h0 | h0
                  · rw [Zk h0,Zt];exact HOX.out.2.right
                  · rw [Zk h0,Zy];exact HOX.out.1.right
                obtain ⟨hq1,hq2⟩:=mg_whole HOX.out.1 HOX.out.2 HLOW.out HHIG.out hO1 hO2 (SameK.refl _) (SameK.refl _);refine ⟨rfl,(X1++Y1)++(X2++Y2),?_,hq1,?_,HC2.out⟩
                · have h9:=HR2.out;simpa only [Zi] using h9
                · rw [HXX.out.1,HXX.out.2.1];exact hq2
            · by_cases qY2:0<Y2.length
              · exact absurd (by have h1:=HXX.out;have h2:=HX.out;have h3:=HM.out;have h4:=HLH.out;have h5:=HE.out;have h6:=congrArg List.length h1.1;have h7:=congrArg List.length h1.2.1;rw [Zf] at h6 h7;omega:False) id
              · exact absurd (by have h1:=HXX.out;have h2:=HX.out;have h3:=HM.out;have h4:=HLH.out;have h5:=HE.out;have h6:=congrArg List.length h1.1;have h7:=congrArg List.length h1.2.1;rw [Zf] at h6 h7;omega:False) id
          · by_cases qX2:0<X2.length
            · by_cases qY2:0<Y2.length
              · exact absurd (by have h1:=HXX.out;have h2:=HX.out;have h3:=HM.out;have h4:=HLH.out;have h5:=HE.out;have h6:=congrArg List.length h1.1;have h7:=congrArg List.length h1.2.1;rw [Zf] at h6 h7;omega:False) id
              · exact absurd (by have h1:=HXX.out;have h2:=HX.out;have h3:=HM.out;have h4:=HLH.out;have h5:=HE.out;have h6:=congrArg List.length h1.1;have h7:=congrArg List.length h1.2.1;rw [Zf] at h6 h7;omega:False) id
            · by_cases qY2:0<Y2.length
              · exact absurd (by have h1:=HXX.out;have h2:=HX.out;have h3:=HM.out;have h4:=HLH.out;have h5:=HE.out;have h6:=congrArg List.length h1.1;have h7:=congrArg List.length h1.2.1;rw [Zf] at h6 h7;omega:False) id
              · exact absurd (by have h1:=HXX.out;have h2:=HX.out;have h3:=HM.out;have h4:=HLH.out;have h5:=HE.out;have h6:=congrArg List.length h1.1;have h7:=congrArg List.length h1.2.1;rw [Zf] at h6 h7;omega:False) id
theorem merges_any (gr gk n cp:Nat) (Z:List Value) (hmax:n≤1000000):∀ (N a m b:Nat),b - a≤N→Merges gr gk n cp Z a m b
  | 0,a,m,b,hN=>merges_step gr gk n cp Z hmax a m b (fun a' m' b' h=>by omega)
  | N+1,a,m,b,hN=>merges_step gr gk n cp Z hmax a m b (fun a' m' b' h=>merges_any gr gk n cp Z hmax N a' m' b' (by omega))
end Go.Proofs.YtijffkklhgnknaaGreatDoor
