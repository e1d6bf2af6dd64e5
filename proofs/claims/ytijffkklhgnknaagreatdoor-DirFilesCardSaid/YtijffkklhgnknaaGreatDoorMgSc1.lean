/- The reference's May. Conditions: no more than a million entries, names no longer than 2^32. -/
import Derived.Test.YtijffkklhgnknaaGreatDoorAz
import Derived.Test.YtijffkklhgnknaaGreatDoorMgRa
import Derived.Test.YtijffkklhgnknaaGreatDoorMgRunesRef2
import Derived.Test.YtijffkklhgnknaaGreatDoorMgUb
import Derived.Test.YtijffkklhgnknaaGreatDoorMgRe
import Derived.Test.YtijffkklhgnknaaGreatDoorMgNd
import Derived.Test.YtijffkklhgnknaaGreatDoorMgNames
import Derived.BigQuiet
import Derived.Deep.QuietTactic
set_option maxHeartbeats 20000000
set_option linter.unusedVariables false
set_option maxRecDepth 20000
namespace Go.Proofs.YtijffkklhgnknaaGreatDoor
open Go.RowKit
def Pairs (X:List Ent) (i:Nat):Prop:=∀ j k x y,j<k→k<i→X[j]?=some x→X[k]?=some y→x.ck≠y.ck∧lessD x.nm.data.toList y.nm.data.toList=true
theorem apart_pw:∀ {X:List Ent},X.Pairwise (fun x y=>x.ck≠y.ck)→Apart X
  | [],_,c=>by simp
  | x::L,h,c=>by
    rw [List.pairwise_cons] at h;by_cases hx:(x.ck==c)=true
    · have h0:L.filter (fun e=>e.ck==c)=[]:=List.filter_eq_nil_iff.2 fun y hy hk=>h.1 y hy (by rw [beq_iff_eq] at hk hx;omega);rw [List.filter_cons,if_pos hx,h0];simp
    · rw [List.filter_cons,if_neg hx];exact apart_pw h.2 c
theorem pw_apart:∀ {X:List Ent},Apart X→X.Pairwise (fun x y=>x.ck≠y.ck)
  | [],_=>List.Pairwise.nil
  | x ::L,h=>by
    refine List.Pairwise.cons (fun y hy he=>?_) (pw_apart fun c=>?_)
    · have h1:=h x.ck;rw [List.filter_cons,if_pos (by simp)] at h1;have h2:y ∈ L.filter (fun e=>e.ck==x.ck):=List.mem_filter.2 ⟨hy,by simp [he]⟩;have h3:=List.length_pos_of_mem h2;simp only [List.length_cons] at h1;omega
    · have h1:=h c;rw [List.filter_cons] at h1
      split at h1
      · simp only [List.length_cons] at h1;omega
      · exact h1
theorem lessD_trans {a b c:List UInt8} (h:lessD a b=true) (k:lessD b c=true):lessD a c=true:=lex_trans _ _ _ h k
theorem rises_far {X:List Ent} (h:Rises X):∀ (d j:Nat) (x y:Ent),X[j]?=some x→X[j+1+d]?=some y→lessD x.nm.data.toList y.nm.data.toList=true
  | 0,j,x,y,hx,hy=>h j x y hx hy
  | d+1,j,x,y,hx,hy=>by
    have hl:=(Zn.1 hy).1;have hz:X[j+1+d]?=some (X[j+1+d]'(by omega)):=Zh (by omega);exact lessD_trans (rises_far h d j x _ hx hz) (h (j+1+d) _ y hz hy)
theorem pairs_may {X:List Ent} (h:MayL X):Pairs X X.length:=fun j k x y hjk hk hx hy=>by
  constructor
  · have h1:=List.pairwise_iff_getElem.1 (pw_apart h.2.2.2) j k (by omega) hk hjk;obtain ⟨_,rfl⟩:=Zn.1 hx;obtain ⟨_,rfl⟩:=Zn.1 hy;exact h1
  · exact rises_far h.2.2.1 (k - j - 1) j x y hx (by rw [show j+1+(k - j - 1)=k by omega];exact hy)
theorem may_pairs {X:List Ent} (h1:X.length≤32) (h2:∀ e ∈ X,MayE e) (h3:Pairs X X.length):MayL X:=
  ⟨h1,h2,fun q x y hx hy=>(h3 q (q+1) x y (by omega) (Zn.1 hy).1 hx hy).2,apart_pw (List.pairwise_iff_getElem.2 fun j k hj hk hjk=>(h3 j k _ _ hjk hk (Zh hj) (Zh hk)).1)⟩
theorem pairs_more {X:List Ent} {i:Nat} {y:Ent} (h:Pairs X i) (hy:X[i]?=some y) (h2:∀ j x,j<i→X[j]?=some x→x.ck≠y.ck∧lessD x.nm.data.toList y.nm.data.toList=true):Pairs X (i+1):=fun j k x z hjk hk hx hz=>by
  by_cases hki:k<i
  · exact h j k x z hjk hki hx hz
  · obtain rfl:k=i:=by omega
    rw [hy] at hz;injection hz with hz
    subst hz;exact h2 j x hjk hx
theorem rmay_anyD (A : Option Addr) (n c:Nat) (X:List Ent) (hmax:n≤1000000) (w:World) (h:Lies ecs 5 w A X) (hn:X.length=n) (hnm:∀ e ∈ X,e.nm.size≤4294967296):
    Calls Tryz.prog 15 #[.slice A n c] w fun e w'=>MayP X e∧Below w.heap.size w w':=by
  have H:=Za h;have HN:=Za (And.intro hmax hn);have HNM:=Za hnm;clear h hmax hn hnm;by_cases hbig:32<n
  · have hbi:(32:Int)<(n:Int):=by omega
    have HBG:=Za hbig;clear hbig;go_enter Tryz.func15,Tryz.ntmps15;go_wp2;go_ret;exact ⟨⟨false,rfl,⟨(fun h=>by cases h),fun h=>absurd h.1 (by have:=HBG.out;have:=HN.out;omega)⟩⟩,Below.refl _ _⟩
  have hbi:¬ (32:Int)<(n:Int):=by omega
  have HBG:=Za (p:=n≤32) (by omega);clear hbig;go_enter Tryz.func15,Tryz.ntmps15;go_wp2;go_loopw [3] (fun y wr=>∃ (i:Nat),y=.int .i64 (i:Int)∧Hid (i≤n)∧Hid (∀ e ∈ X.take i,MayE e)∧Hid (Pairs X i)∧Hid (Below w.heap.size w wr)) (fun y _=>n - (intOf y).toNat)
  case atStart=>exact ⟨0,rfl,Za (Nat.zero_le _),Za (fun e he=>by simp at he),Za (fun j k x y _ hk=>absurd hk (Nat.not_lt_zero _)),Za (Below.refl _ _)⟩
  case round =>
    obtain ⟨i,rfl,HIL,HP,HQ,HB⟩:=hrel
    rename World=>wo;by_cases hi:i<n
    · have hii : (i : Int) <(n:Int):=by omega
      have hiw:IntKind.i64.wrap ((i:Int)+1)=(i:Int)+1:=by rw [Zg];have:=HN.out;omega
      have hix:i<X.length:=by have:=HN.out;omega
      obtain ⟨ga,oa,rfl,hc⟩:=(H.out.below HB.out).at_ hix
      obtain ⟨x,hx⟩:∃ x,X[i]=x:=⟨_,rfl⟩;rw [hx] at hc;have HX:=Za (p:=X[i]?=some x) (by rw [Zh hix,hx]);have HSZ:=Za (p:=x.nm.size≤1099511627776) (by have:=HNM.out x (Zx HX.out);omega);have HR:=Za (p:=wo.rangeAt ga (oa+i*5) (ecs x)) (fun j u hu=>hc j u hu);have HI:=Za hi;clear hc hx hix hi;obtain ⟨nm,ino,ser,kind,ck⟩:=x
      dsimp only at HSZ;obtain ⟨r,hr⟩:∃ r:Int,nameR nm.data.toList=r:=⟨_,rfl⟩;have HNR:=Za hr;have HME:=Za (p:=MayE ⟨nm,ino,ser,kind,ck⟩↔(r=0∧1≤kind∧kind≤3∧1≤ino∧ino≤64∧ser≠0∧ck≠0)) (by rw [← hr];rfl);clear hr;by_cases a0:r=0
      case neg=>
        have d0:(r !=0)=true:=bne_iff_ne.2 a0;have e0:(r==0)=false:=beq_false_of_ne a0;have HBAD:=Za (p:=¬ (r=0∧1≤kind∧kind≤3∧1≤ino∧ino≤64∧ser≠0∧ck≠0)) (fun h=>a0 h.1);clear a0
        go_wp2_with (first
          | (refine wpList_load_mid rfl 61 (.tmp 17) rfl ga (oa+i*5) rfl (ecs ⟨nm,ino,ser,kind,ck⟩) _ HR.out Yi rfl (info_ent _) ?_)
          | (refine step_alloc rfl 4 rfl 61 rfl (ecs ent0) zero_ent ?_;intro g4 w2 hr2 hg2 hb2 hs2;have HR2:=Za hr2
             have HB2:=Za hb2;have HG2:=hg2;clear hr2 hg2 hb2 hs2)
          | (refine step_store rfl 61 _ _ rfl g4 rfl 61 (ecs ent0) (ecs ⟨nm,ino,ser,kind,ck⟩) rfl HR2.out rfl (info_ent _) (ecs_one _) ?_;intro w3 hr3 hg3 hs3;have HR3:=Za hr3
             have HB3:=Za (HB2.out.grown hg3 HB2.out.size (fun q hq=>by injection hq with hq;subst hq;exact Nat.le_of_eq HG2.out.symm));have c0:w3.cell? ⟨g4,0,none⟩=some (.string nm):=(hr3.cell 0).trans rfl;clear hr3 hg3 hs3)
          | (go_at_call 36;refine (rname_any nm _ HSZ.out).mono ?_;rintro e w4 ⟨rfl,hb⟩;have HB4:=Za (below_nxt hb HB3.out)
             have HR4:=Za (HR3.out.kept hb);have c1:w4.cell? ⟨g4,1,none⟩=some (.int .i64 ino):=(HR4.out.cell 1).trans rfl;have c2:w4.cell? ⟨g4,2,none⟩=some (.int .u64 (ser:Int)):=(HR4.out.cell 2).trans rfl;have c3:w4.cell? ⟨g4,3,none⟩=some (.int .i64 kind):=(HR4.out.cell 3).trans rfl;have c4:w4.cell? ⟨g4,4,none⟩=some (.int .u32 (ck:Int)):=(HR4.out.cell 4).trans rfl;rw [HNR.out];clear hb))
        go_ret;exact ⟨⟨false,rfl,⟨(fun h=>by cases h),fun h=>absurd (HME.out.1 (h.2.1 _ (Zx HX.out))) HBAD.out⟩⟩,below_nxt HB4.out HB.out⟩
      have d0:(r !=0)=false:=by rw [a0];rfl
      have e0:(r==0)=true:=by rw [a0];rfl
      by_cases a1:1≤kind
      case neg=>
        have d1:kind<1:=by omega
        have HBAD:=Za (p:=¬ (r=0∧1≤kind∧kind≤3∧1≤ino∧ino≤64∧ser≠0∧ck≠0)) (fun h=>a1 h.2.1);clear a0 a1
        go_wp2_with (first
          | (refine wpList_load_mid rfl 61 (.tmp 17) rfl ga (oa+i*5) rfl (ecs ⟨nm,ino,ser,kind,ck⟩) _ HR.out Yi rfl (info_ent _) ?_)
          | (refine step_alloc rfl 4 rfl 61 rfl (ecs ent0) zero_ent ?_;intro g4 w2 hr2 hg2 hb2 hs2;have HR2:=Za hr2
             have HB2:=Za hb2;have HG2:=hg2;clear hr2 hg2 hb2 hs2)
          | (refine step_store rfl 61 _ _ rfl g4 rfl 61 (ecs ent0) (ecs ⟨nm,ino,ser,kind,ck⟩) rfl HR2.out rfl (info_ent _) (ecs_one _) ?_;intro w3 hr3 hg3 hs3;have HR3:=Za hr3
             have HB3:=Za (HB2.out.grown hg3 HB2.out.size (fun q hq=>by injection hq with hq;subst hq;exact Nat.le_of_eq HG2.out.symm));have c0:w3.cell? ⟨g4,0,none⟩=some (.string nm):=(hr3.cell 0).trans rfl;clear hr3 hg3 hs3)
          | (go_at_call 36;refine (rname_any nm _ HSZ.out).mono ?_;rintro e w4 ⟨rfl,hb⟩;have HB4:=Za (below_nxt hb HB3.out)
             have HR4:=Za (HR3.out.kept hb);have c1:w4.cell? ⟨g4,1,none⟩=some (.int .i64 ino):=(HR4.out.cell 1).trans rfl;have c2:w4.cell? ⟨g4,2,none⟩=some (.int .u64 (ser:Int)):=(HR4.out.cell 2).trans rfl;have c3:w4.cell? ⟨g4,3,none⟩=some (.int .i64 kind):=(HR4.out.cell 3).trans rfl;have c4:w4.cell? ⟨g4,4,none⟩=some (.int .u32 (ck:Int)):=(HR4.out.cell 4).trans rfl;rw [HNR.out];clear hb))
        go_ret;exact ⟨⟨false,rfl,⟨(fun h=>by cases h),fun h=>absurd (HME.out.1 (h.2.1 _ (Zx HX.out))) HBAD.out⟩⟩,below_nxt HB4.out HB.out⟩
      have d1:¬ kind<1:=by omega
      by_cases a2:kind≤3
      case neg=>
        have d2:(3:Int)<kind:=by omega
        have HBAD:=Za (p:=¬ (r=0∧1≤kind∧kind≤3∧1≤ino∧ino≤64∧ser≠0∧ck≠0)) (fun h=>a2 h.2.2.1);clear a0 a1 a2
        go_wp2_with (first
          | (refine wpList_load_mid rfl 61 (.tmp 17) rfl ga (oa+i*5) rfl (ecs ⟨nm,ino,ser,kind,ck⟩) _ HR.out Yi rfl (info_ent _) ?_)
          | (refine step_alloc rfl 4 rfl 61 rfl (ecs ent0) zero_ent ?_;intro g4 w2 hr2 hg2 hb2 hs2;have HR2:=Za hr2
             have HB2:=Za hb2;have HG2:=hg2;clear hr2 hg2 hb2 hs2)
          | (refine step_store rfl 61 _ _ rfl g4 rfl 61 (ecs ent0) (ecs ⟨nm,ino,ser,kind,ck⟩) rfl HR2.out rfl (info_ent _) (ecs_one _) ?_;intro w3 hr3 hg3 hs3;have HR3:=Za hr3
             have HB3:=Za (HB2.out.grown hg3 HB2.out.size (fun q hq=>by injection hq with hq;subst hq;exact Nat.le_of_eq HG2.out.symm));have c0:w3.cell? ⟨g4,0,none⟩=some (.string nm):=(hr3.cell 0).trans rfl;clear hr3 hg3 hs3)
          | (go_at_call 36;refine (rname_any nm _ HSZ.out).mono ?_;rintro e w4 ⟨rfl,hb⟩;have HB4:=Za (below_nxt hb HB3.out)
             have HR4:=Za (HR3.out.kept hb);have c1:w4.cell? ⟨g4,1,none⟩=some (.int .i64 ino):=(HR4.out.cell 1).trans rfl;have c2:w4.cell? ⟨g4,2,none⟩=some (.int .u64 (ser:Int)):=(HR4.out.cell 2).trans rfl;have c3:w4.cell? ⟨g4,3,none⟩=some (.int .i64 kind):=(HR4.out.cell 3).trans rfl;have c4:w4.cell? ⟨g4,4,none⟩=some (.int .u32 (ck:Int)):=(HR4.out.cell 4).trans rfl;rw [HNR.out];clear hb))
        go_ret;exact ⟨⟨false,rfl,⟨(fun h=>by cases h),fun h=>absurd (HME.out.1 (h.2.1 _ (Zx HX.out))) HBAD.out⟩⟩,below_nxt HB4.out HB.out⟩
      have d2:¬ (3:Int)<kind:=by omega
      by_cases a3:1≤ino
      case neg=>
        have d3:ino<1:=by omega
        have HBAD:=Za (p:=¬ (r=0∧1≤kind∧kind≤3∧1≤ino∧ino≤64∧ser≠0∧ck≠0)) (fun h=>a3 h.2.2.2.1);clear a0 a1 a2 a3
        go_wp2_with (first
          | (refine wpList_load_mid rfl 61 (.tmp 17) rfl ga (oa+i*5) rfl (ecs ⟨nm,ino,ser,kind,ck⟩) _ HR.out Yi rfl (info_ent _) ?_)
          | (refine step_alloc rfl 4 rfl 61 rfl (ecs ent0) zero_ent ?_;intro g4 w2 hr2 hg2 hb2 hs2;have HR2:=Za hr2
             have HB2:=Za hb2;have HG2:=hg2;clear hr2 hg2 hb2 hs2)
          | (refine step_store rfl 61 _ _ rfl g4 rfl 61 (ecs ent0) (ecs ⟨nm,ino,ser,kind,ck⟩) rfl HR2.out rfl (info_ent _) (ecs_one _) ?_;intro w3 hr3 hg3 hs3;have HR3:=Za hr3
             have HB3:=Za (HB2.out.grown hg3 HB2.out.size (fun q hq=>by injection hq with hq;subst hq;exact Nat.le_of_eq HG2.out.symm));have c0:w3.cell? ⟨g4,0,none⟩=some (.string nm):=(hr3.cell 0).trans rfl;clear hr3 hg3 hs3)
          | (go_at_call 36;refine (rname_any nm _ HSZ.out).mono ?_;rintro e w4 ⟨rfl,hb⟩;have HB4:=Za (below_nxt hb HB3.out)
             have HR4:=Za (HR3.out.kept hb);have c1:w4.cell? ⟨g4,1,none⟩=some (.int .i64 ino):=(HR4.out.cell 1).trans rfl;have c2:w4.cell? ⟨g4,2,none⟩=some (.int .u64 (ser:Int)):=(HR4.out.cell 2).trans rfl;have c3:w4.cell? ⟨g4,3,none⟩=some (.int .i64 kind):=(HR4.out.cell 3).trans rfl;have c4:w4.cell? ⟨g4,4,none⟩=some (.int .u32 (ck:Int)):=(HR4.out.cell 4).trans rfl;rw [HNR.out];clear hb))
        go_ret;exact ⟨⟨false,rfl,⟨(fun h=>by cases h),fun h=>absurd (HME.out.1 (h.2.1 _ (Zx HX.out))) HBAD.out⟩⟩,below_nxt HB4.out HB.out⟩
      have d3:¬ ino<1:=by omega
      by_cases a4:ino≤64
      case neg=>
        have d4:(64:Int)<ino:=by omega
        have HBAD:=Za (p:=¬ (r=0∧1≤kind∧kind≤3∧1≤ino∧ino≤64∧ser≠0∧ck≠0)) (fun h=>a4 h.2.2.2.2.1);clear a0 a1 a2 a3 a4
        go_wp2_with (first
          | (refine wpList_load_mid rfl 61 (.tmp 17) rfl ga (oa+i*5) rfl (ecs ⟨nm,ino,ser,kind,ck⟩) _ HR.out Yi rfl (info_ent _) ?_)
          | (refine step_alloc rfl 4 rfl 61 rfl (ecs ent0) zero_ent ?_;intro g4 w2 hr2 hg2 hb2 hs2;have HR2:=Za hr2
             have HB2:=Za hb2;have HG2:=hg2;clear hr2 hg2 hb2 hs2)
          | (refine step_store rfl 61 _ _ rfl g4 rfl 61 (ecs ent0) (ecs ⟨nm,ino,ser,kind,ck⟩) rfl HR2.out rfl (info_ent _) (ecs_one _) ?_;intro w3 hr3 hg3 hs3;have HR3:=Za hr3
             have HB3:=Za (HB2.out.grown hg3 HB2.out.size (fun q hq=>by injection hq with hq;subst hq;exact Nat.le_of_eq HG2.out.symm));have c0:w3.cell? ⟨g4,0,none⟩=some (.string nm):=(hr3.cell 0).trans rfl;clear hr3 hg3 hs3)
          | (go_at_call 36;refine (rname_any nm _ HSZ.out).mono ?_;rintro e w4 ⟨rfl,hb⟩;have HB4:=Za (below_nxt hb HB3.out)
             have HR4:=Za (HR3.out.kept hb);have c1:w4.cell? ⟨g4,1,none⟩=some (.int .i64 ino):=(HR4.out.cell 1).trans rfl;have c2:w4.cell? ⟨g4,2,none⟩=some (.int .u64 (ser:Int)):=(HR4.out.cell 2).trans rfl;have c3:w4.cell? ⟨g4,3,none⟩=some (.int .i64 kind):=(HR4.out.cell 3).trans rfl;have c4:w4.cell? ⟨g4,4,none⟩=some (.int .u32 (ck:Int)):=(HR4.out.cell 4).trans rfl;rw [HNR.out];clear hb))
        go_ret;exact ⟨⟨false,rfl,⟨(fun h=>by cases h),fun h=>absurd (HME.out.1 (h.2.1 _ (Zx HX.out))) HBAD.out⟩⟩,below_nxt HB4.out HB.out⟩
      have d4:¬ (64:Int)<ino:=by omega
      by_cases a5:ser≠0
      case neg=>
        have d5:((ser:Int)==0)=true:=by rw [beq_iff_eq];omega
        have HBAD:=Za (p:=¬ (r=0∧1≤kind∧kind≤3∧1≤ino∧ino≤64∧ser≠0∧ck≠0)) (fun h=>a5 h.2.2.2.2.2.1);clear a0 a1 a2 a3 a4 a5
        go_wp2_with (first
          | (refine wpList_load_mid rfl 61 (.tmp 17) rfl ga (oa+i*5) rfl (ecs ⟨nm,ino,ser,kind,ck⟩) _ HR.out Yi rfl (info_ent _) ?_)
          | (refine step_alloc rfl 4 rfl 61 rfl (ecs ent0) zero_ent ?_;intro g4 w2 hr2 hg2 hb2 hs2;have HR2:=Za hr2
             have HB2:=Za hb2;have HG2:=hg2;clear hr2 hg2 hb2 hs2)
          | (refine step_store rfl 61 _ _ rfl g4 rfl 61 (ecs ent0) (ecs ⟨nm,ino,ser,kind,ck⟩) rfl HR2.out rfl (info_ent _) (ecs_one _) ?_;intro w3 hr3 hg3 hs3;have HR3:=Za hr3
             have HB3:=Za (HB2.out.grown hg3 HB2.out.size (fun q hq=>by injection hq with hq;subst hq;exact Nat.le_of_eq HG2.out.symm));have c0:w3.cell? ⟨g4,0,none⟩=some (.string nm):=(hr3.cell 0).trans rfl;clear hr3 hg3 hs3)
          | (go_at_call 36;refine (rname_any nm _ HSZ.out).mono ?_;rintro e w4 ⟨rfl,hb⟩;have HB4:=Za (below_nxt hb HB3.out)
             have HR4:=Za (HR3.out.kept hb);have c1:w4.cell? ⟨g4,1,none⟩=some (.int .i64 ino):=(HR4.out.cell 1).trans rfl;have c2:w4.cell? ⟨g4,2,none⟩=some (.int .u64 (ser:Int)):=(HR4.out.cell 2).trans rfl;have c3:w4.cell? ⟨g4,3,none⟩=some (.int .i64 kind):=(HR4.out.cell 3).trans rfl;have c4:w4.cell? ⟨g4,4,none⟩=some (.int .u32 (ck:Int)):=(HR4.out.cell 4).trans rfl;rw [HNR.out];clear hb))
        go_ret;exact ⟨⟨false,rfl,⟨(fun h=>by cases h),fun h=>absurd (HME.out.1 (h.2.1 _ (Zx HX.out))) HBAD.out⟩⟩,below_nxt HB4.out HB.out⟩
      have d5:((ser:Int)==0)=false:=beq_false_of_ne (by omega);by_cases a6:ck≠0
      case neg=>
        have d6:((ck:Int)==0)=true:=by rw [beq_iff_eq];omega
        have HBAD:=Za (p:=¬ (r=0∧1≤kind∧kind≤3∧1≤ino∧ino≤64∧ser≠0∧ck≠0)) (fun h=>a6 h.2.2.2.2.2.2);clear a0 a1 a2 a3 a4 a5 a6
        go_wp2_with (first
          | (refine wpList_load_mid rfl 61 (.tmp 17) rfl ga (oa+i*5) rfl (ecs ⟨nm,ino,ser,kind,ck⟩) _ HR.out Yi rfl (info_ent _) ?_)
          | (refine step_alloc rfl 4 rfl 61 rfl (ecs ent0) zero_ent ?_;intro g4 w2 hr2 hg2 hb2 hs2;have HR2:=Za hr2
             have HB2:=Za hb2;have HG2:=hg2;clear hr2 hg2 hb2 hs2)
          | (refine step_store rfl 61 _ _ rfl g4 rfl 61 (ecs ent0) (ecs ⟨nm,ino,ser,kind,ck⟩) rfl HR2.out rfl (info_ent _) (ecs_one _) ?_;intro w3 hr3 hg3 hs3;have HR3:=Za hr3
             have HB3:=Za (HB2.out.grown hg3 HB2.out.size (fun q hq=>by injection hq with hq;subst hq;exact Nat.le_of_eq HG2.out.symm));have c0:w3.cell? ⟨g4,0,none⟩=some (.string nm):=(hr3.cell 0).trans rfl;clear hr3 hg3 hs3)
          | (go_at_call 36;refine (rname_any nm _ HSZ.out).mono ?_;rintro e w4 ⟨rfl,hb⟩;have HB4:=Za (below_nxt hb HB3.out)
             have HR4:=Za (HR3.out.kept hb);have c1:w4.cell? ⟨g4,1,none⟩=some (.int .i64 ino):=(HR4.out.cell 1).trans rfl;have c2:w4.cell? ⟨g4,2,none⟩=some (.int .u64 (ser:Int)):=(HR4.out.cell 2).trans rfl;have c3:w4.cell? ⟨g4,3,none⟩=some (.int .i64 kind):=(HR4.out.cell 3).trans rfl;have c4:w4.cell? ⟨g4,4,none⟩=some (.int .u32 (ck:Int)):=(HR4.out.cell 4).trans rfl;rw [HNR.out];clear hb))
        go_ret;exact ⟨⟨false,rfl,⟨(fun h=>by cases h),fun h=>absurd (HME.out.1 (h.2.1 _ (Zx HX.out))) HBAD.out⟩⟩,below_nxt HB4.out HB.out⟩
      have d6:((ck:Int)==0)=false:=beq_false_of_ne (by omega);have HGOOD:=Za (p:=MayE ⟨nm,ino,ser,kind,ck⟩) (HME.out.2 ⟨a0,a1,a2,a3,a4,a5,a6⟩);clear a0 a1 a2 a3 a4 a5 a6
      go_wp2_with (first
        | (refine wpList_load_mid rfl 61 (.tmp 17) rfl ga (oa+i*5) rfl (ecs ⟨nm,ino,ser,kind,ck⟩) _ HR.out Yi rfl (info_ent _) ?_)
        | (refine step_alloc rfl 4 rfl 61 rfl (ecs ent0) zero_ent ?_;intro g4 w2 hr2 hg2 hb2 hs2;have HR2:=Za hr2
           have HB2:=Za hb2;have HG2:=hg2;clear hr2 hg2 hb2 hs2)
        | (refine step_store rfl 61 _ _ rfl g4 rfl 61 (ecs ent0) (ecs ⟨nm,ino,ser,kind,ck⟩) rfl HR2.out rfl (info_ent _) (ecs_one _) ?_;intro w3 hr3 hg3 hs3;have HR3:=Za hr3
           have HB3:=Za (HB2.out.grown hg3 HB2.out.size (fun q hq=>by injection hq with hq;subst hq;exact Nat.le_of_eq HG2.out.symm));have c0:w3.cell? ⟨g4,0,none⟩=some (.string nm):=(hr3.cell 0).trans rfl;clear hr3 hg3 hs3)
        | (go_at_call 36;refine (rname_any nm _ HSZ.out).mono ?_;rintro e w4 ⟨rfl,hb⟩;have HB4:=Za (below_nxt hb HB3.out)
           have HR4:=Za (HR3.out.kept hb);have c1:w4.cell? ⟨g4,1,none⟩=some (.int .i64 ino):=(HR4.out.cell 1).trans rfl;have c2:w4.cell? ⟨g4,2,none⟩=some (.int .u64 (ser:Int)):=(HR4.out.cell 2).trans rfl;have c3:w4.cell? ⟨g4,3,none⟩=some (.int .i64 kind):=(HR4.out.cell 3).trans rfl;have c4:w4.cell? ⟨g4,4,none⟩=some (.int .u32 (ck:Int)):=(HR4.out.cell 4).trans rfl;rw [HNR.out];clear hb))
      clear c0 c1 c2 c3 c4 d0 e0 d1 d2 d3 d4 d5 d6;go_loopw [5] (fun y wr=>∃ k:Nat,Hid (k≤i)∧y=.int .i64 (k:Int)∧Hid (∀ j z,j<k→X[j]?=some z→z.ck≠ck∧lessD z.nm.data.toList nm.data.toList=true)∧Hid (Row wr g4 61 (ecs ⟨nm,ino,ser,kind,ck⟩))∧Hid (Below wo.heap.size wo wr)) (fun y _=>i - (intOf y).toNat)
      case atStart=>exact ⟨0,Za (Nat.zero_le _),rfl,Za (fun j z hj=>by omega),HR4,HB4⟩
      case round =>
        obtain ⟨k,HKL,rfl,HLE,HRW,HBI⟩:=hrel;by_cases hk:k<i
        · have hki : (k : Int)<(i:Int):=by omega
          have hkd:decide (k<i)=true:=decide_eq_true hk;have hkn:(k:Int)<(n:Int):=by omega
          have hkw:IntKind.i64.wrap ((k:Int)+1)=(k:Int)+1:=by rw [Zg];have:=HN.out;omega
          have hkx:k<X.length:=by have:=HN.out;have:=HI.out;omega
          obtain ⟨gb,ob,he,hcb⟩:=(H.out.below (below_nxt HBI.out HB.out)).at_ hkx
          injection he with he
          injection he with he1 he2
          subst he1 he2;obtain ⟨z,hz⟩:∃ z,X[k]=z:=⟨_,rfl⟩;rw [hz] at hcb;have HZ:=Za (p:=X[k]?=some z) (by rw [Zh hkx,hz]);obtain ⟨nm2,ino2,ser2,kind2,ck2⟩:=z;have b0:wr.cell? ⟨ga,oa+k*5,none⟩=some (.string nm2):=hcb 0 _ rfl;have b4:wr.cell? ⟨ga,oa+k*5+4,none⟩=some (.int .u32 (ck2:Int)):=hcb 4 _ rfl;have c0:wr.cell? ⟨g4,0,none⟩=some (.string nm):=(HRW.out.cell 0).trans rfl;have c4:wr.cell? ⟨g4,4,none⟩=some (.int .u32 (ck:Int)):=(HRW.out.cell 4).trans rfl;have HK:=Za hk;have HLS:=Za (p:=∀ w,Calls Tryz.prog 37 #[.string nm2,.string nm] w fun e w'=>e=.returned (.bool (lessD nm2.data.toList nm.data.toList))∧Below w.heap.size w w') (fun w=>rless_any nm2 nm w (by have:=HNM.out _ (Zx HZ.out);dsimp only at this;omega) HSZ.out);clear hcb hz hkx hk;by_cases hcc:ck2=ck
          · have hce:((ck2:Int)==(ck:Int))=true:=by rw [beq_iff_eq];omega
            have hcn:(ck2==ck)=true:=by rw [beq_iff_eq];exact hcc
            have HCC:=Za hcc;clear hcc;go_wp2;go_quiet (fail);go_wp2;go_ret;refine ⟨⟨false,rfl,⟨(fun h=>by cases h),fun h=>?_⟩⟩,below_drewN (below_nxt HBI.out HB.out) _⟩;exact absurd HCC.out (pairs_may h k i _ _ HK.out (by have:=HI.out;have:=HN.out;omega) HZ.out HX.out).1
          · have hce : ((ck2:Int)==(ck:Int))=false:=beq_false_of_ne (by omega);have hcn:(ck2==ck)=false:=beq_false_of_ne hcc;have HCC:=Za hcc;clear hcc;obtain ⟨zz,hzz⟩:∃ zz,lessD nm2.data.toList nm.data.toList=zz:=⟨_,rfl⟩;have HZZ:=Za hzz;rw [hzz] at HLS;clear hzz;cases zz
            · go_wp2; go_still_tail 16,(by kernel_rfl);change wpList _ _ _ _ _ wr.drew
              go_wp2_with (go_at_call 37;refine (HLS.out _).mono ?_;rintro e w5 ⟨rfl,hb⟩;have HB5:=Za (below_nxt (below_nxt hb (below_drw wr)) HBI.out)
                           clear hb)
              go_ret;refine ⟨⟨false,rfl,⟨(fun h=>by cases h),fun h=>?_⟩⟩,below_nxt HB5.out HB.out⟩;have h1:=(pairs_may h k i _ _ HK.out (by have:=HI.out;have:=HN.out;omega) HZ.out HX.out).2;rw [HZZ.out] at h1;cases h1
            · go_wp2; go_still_tail 16,(by kernel_rfl);change wpList _ _ _ _ _ wr.drew
              go_wp2_with (go_at_call 37;refine (HLS.out _).mono ?_;rintro e w5 ⟨rfl,hb⟩;have HB5:=Za (below_nxt (below_nxt hb (below_drw wr)) HBI.out)
                           have HR5:=Za ((HRW.out.kept (below_drw wr)).kept hb);clear hb)
              go_roundw
              case rel=>
                refine ⟨k+1,Za HK.out,by go_num,Za (fun j z hj hz=>?_),HR5,HB5⟩;by_cases hjk:j<k
                · exact HLE.out j z hjk hz
                · obtain rfl:j=k:=by omega
                  have h1:=HZ.out;rw [hz] at h1;injection h1 with h1
                  subst h1;exact ⟨HCC.out,HZZ.out⟩
              case measure=>have:=HK.out;simp [intOf];omega
        · have hki:¬ (k:Int)<(i:Int):=by omega
          have hke:k=i:=by have:=HKL.out;omega
          have HKE:=Za hke;clear hk hke;go_wp2;go_roundw
          case rel=>
            refine ⟨i+1,by go_num,Za HI.out,Za (fun e he=>?_),Za (pairs_more HQ.out HX.out (fun j x hj hx=>HLE.out j x (by rw [HKE.out];exact hj) hx)),Za (below_nxt HBI.out HB.out)⟩;rw [List.take_add_one,HX.out] at he;rcases List.mem_append.1 he with he | he
            · exact HP.out e he
            · simp at he;subst he;exact HGOOD.out
          case measure=>have:=HI.out;simp [intOf];omega
    · have hii:¬ (i:Int)<(n:Int):=by omega
      have hie:i=n:=by have:=HIL.out;omega
      have HALL:=Za (p:=MayL X) (by
        have h1:=HP.out;rw [Zz (by have:=HN.out;omega)] at h1;have h2:=HQ.out;rw [show i=X.length by have:=HN.out;omega] at h2;exact may_pairs (by have:=HBG.out;have:=HN.out;omega) h1 h2)
      clear hi hie;go_wp2;go_ret;exact ⟨⟨true,rfl,⟨fun _=>HALL.out,fun _=>rfl⟩⟩,HB.out⟩
/- Plain facts of how many leaves a list takes:an entry more takes at most a leaf more,and never a leaf less;where an entry belongs is one place. No conditions. -/
def lvs:Nat→List Ent→Nat
  | _,[]=>0
  | r,x::L=>if (enb x).length≤r then lvs (r - (enb x).length) L else lvs (255 - (enb x).length) L+1
def Thin (X:List Ent):Prop:=∀ x ∈ X,0<(enb x).length∧(enb x).length≤127
theorem Thin.tail {x:Ent} {L:List Ent} (h:Thin (x::L)):Thin L:=fun y hy=>h y (List.mem_cons_of_mem _ hy)
theorem lvs_fit:∀ (X:List Ent),Thin X→∀ r,lvs r X=lvs 0 (X.drop (fitL r X))
  | [],_,r=>by simp [lvs]
  | x::L,ht,r=>by
    have hx:=ht x (by simp);unfold fitL;by_cases h1:r<(enb x).length
    · rw [if_pos h1,List.drop_zero,lvs,if_neg (by omega),lvs,if_neg (by omega)]
    · rw [if_neg h1,List.drop_succ_cons,lvs,if_pos (by omega)];exact lvs_fit L ht.tail _
theorem lvs_len:∀ (f:Nat) (X:List Ent),Thin X→X.length≤f→(leavesN f X).length=lvs 0 X
  | 0,X,_,h=>by
    have:X=[]:=Zk (by omega);subst this;rfl
  | f +1,X,ht,h=>by
    cases X with
    | nil=>simp [leavesN,lvs]
    | cons x L=>
      have hx:=ht x (by simp);have hp:1≤fitL 255 (x::L):=fitL_pos (by simp) (fun y hy=>by have:=ht y hy;omega);have e1:lvs 0 (x::L)=lvs 255 (x::L)+1:=by rw [lvs,if_neg (by omega),lvs,if_pos (by omega)]
      have ht2:Thin ((x::L).drop (fitL 255 (x::L))):=fun y hy=>ht y (List.mem_of_mem_drop hy);rw [leavesN,if_neg (by simp),List.length_cons,lvs_len f _ ht2 (by rw [Zs];simp at h ⊢;omega),e1,lvs_fit (x::L) ht 255]
theorem leaves_len {X:List Ent} (h:Thin X):(leaves X).length=lvs 0 X:=lvs_len _ _ h (Zj _)
theorem thin_may {X:List Ent} (h:MayL X):Thin X:=fun e he=>by
  obtain ⟨h1,_⟩:=h.2.1 e he
  have hl:e.nm.data.toList.length≤32:=by
    unfold nameR at h1
    split at h1
    · cases h1
    · split at h1
      · split at h1
        · cases h1
        · omega
      · cases h1
  rw [enb_len];omega
/- dir.Put:a list's leaves are a directory's file;what is no list leaves it as it was. Conditions:those named. -/
theorem lvs_eight:∀ (L:List Ent),(∀ x ∈ L,0<(enb x).length∧(enb x).length≤48)→∀ r,r≤255→208*lvs r L≤48*L.length+(255 - r)
  | [],_,r,_=>by simp [lvs]
  | x::L,ht,r,hr=>by
    have hx:=ht x (by simp);have ih:=lvs_eight L (fun y hy=>ht y (List.mem_cons_of_mem _ hy));unfold lvs
    split
    · have:=ih (r - (enb x).length) (by omega);simp only [List.length_cons];omega
    · have:=ih (255 - (enb x).length) (by omega);simp only [List.length_cons];omega
theorem leaves_eight {X:List Ent} (h:MayL X):(leaves X).length≤8:=by
  have h1 :∀ x ∈ X,0<(enb x).length∧(enb x).length≤48:=fun e he=>by
    obtain ⟨h1,_⟩:=h.2.1 e he
    have hl:e.nm.data.toList.length≤32:=by
      unfold nameR at h1
      split at h1
      · cases h1
      · split at h1
        · split at h1
          · cases h1
          · omega
        · cases h1
    rw [enb_len];omega
  have h2:=lvs_eight X h1 0 (by omega);have h3:=h.1;rw [leaves_len (thin_may h)];omega
theorem leavesN_256U:∀ (f:Nat) (X:List Ent),∀ b ∈ leavesN f X,b.length=256
  | 0,X,b,hb=>by simp [leavesN] at hb
  | f +1,X,b,hb=>by
    unfold leavesN at hb
    split at hb
    · cases hb
    · rcases List.mem_cons.1 hb with rfl | hb
      · exact leafB_len X
      · exact leavesN_256U f _ b hb
theorem leaves_256 {X:List Ent}:∀ b ∈ leaves X,b.length=256:=leavesN_256U _ X
theorem lst_of {f:Nat→UInt8} {l:List UInt8} {M:Nat} (hl:l.length=M) (h:∀ i,i<M→f i=l.getD i 0):lst M f=l:=by
  apply List.ext_getElem (by rw [lst_len,hl]);intro i h1 h2;have h3:(lst M f)[i]?=some (f i):=lst_get _ (by rw [lst_len] at h1;exact h1);rw [Zh h1] at h3;injection h3 with h3
  rw [h3,h i (by omega),List.getD_eq_getElem?_getD,Zh h2];rfl
theorem cutB_flat:∀ (L:List (List UInt8)),(∀ b ∈ L,b.length=256)→cutB L.flatten L.length=L
  | [],_=>rfl
  | x ::L,h=>by
    have ih:=cutB_flat L (fun b hb=>h b (by simp [hb]));have hx:=h x (by simp);unfold cutB at ih ⊢;rw [List.length_cons,List.range_succ_eq_map,List.map_cons,List.map_map,List.flatten_cons];congr 1
    · rw [Nat.zero_mul,List.drop_zero,List.take_left' hx]
    · conv=>rhs;rw [← ih]
      apply List.map_congr_left;intro j _;show ((x++L.flatten).drop ((j+1)*256)).take 256=_;rw [Nat.succ_mul,Nat.add_comm, ← List.drop_drop,List.drop_left' hx]
section
variable {b:Nat} {w w':World} {gd gv gm gs r:Nat} {Bs:List BV} {N n m k:Nat} {X:DX} {v R:Nat→Int} {F F2:Nat→UInt8}
theorem dirput_no (h:DF Bs X v R k F) (Xl:List Ent) (A:Option Addr) (q c:Nat) (hq:Xl.length=q) (hq2:q≤100000) (hqc:q≤c) (hl:Lies ecs 5 w A Xl) (hnm:∀ e ∈ Xl,e.nm.size≤4294967296) (hw:Wide Xl) (hk:DK b w gd gv gm gs r Bs N n X) (hT:∀ W,Chg [gd,gm] w W→Tabs W) (hn:¬ MayL Xl):
    Calls Tryz.prog 14 #[.pointer (some ⟨gd,0,none⟩),.agg (ncs v).toArray,.slice A q c] w fun e w'=>e=.returned (.agg (ncs v).toArray)∧Hid (DK b w' gd gv gm gs r Bs N n X)∧Hid (Chg [gd] w w'):=by
  have HK:=Za hk;have HT:=Za hT;have HLO:=Za (p:=b≤w.heap.size) hk.lo.2.2;have HLT:=Za (p:=gd<w.heap.size∧gm<w.heap.size) ⟨hk.lt,by obtain ⟨C,h2,_⟩:=hk.view;exact h2.map.lt⟩;have i2:=Za (fun v=>info_ncs v);have hzi:=Za zero_ino;have HLV:=Za (p:=∀ W,Below w.heap.size w W→Calls Tryz.prog 24 #[.slice A q c] W (LvP W (lvL Xl) (lvE Xl))) (fun W hb=>leaves_any A q c Xl (by omega) W (hl.below hb) hq hqc hnm hw (hT W (Chg.of hb)));have he:lvE Xl=201:=by unfold lvE;rw [if_neg hn]
  rw [he] at HLV;clear h hk hT hl hq hqc hnm hw hn he;go_enter Tryz.func14,Tryz.ntmps14
  go_wp2_with (first
    | (refine step_box rfl 4 rfl 43 (.tmp 1) rfl (ncs v) rfl ?_;intro g4 w1 hr2 hg2 hb2 hs2;have R41:=Za hr2
       have B1:=Za hb2;have G4:=Za (p:=w.heap.size≤g4) (Nat.le_of_eq hg2.out.symm);clear hr2 hg2 hb2 hs2)
    | (refine step_alloc rfl 6 rfl 43 rfl _ hzi.out ?_;intro g6 w2 hr3 hg3 hb3 hs3;have R62:=Za hr3
       have R42:=Za (R41.out.kept hb3);have B2:=Za (below_nxt hb3 B1.out);have G6:=Za (p:=w.heap.size≤g6∧g4<g6) (by rw [hg3.out];exact ⟨B1.out.size,R41.out.lt⟩);clear hr3 hg3 hb3 hs3)
    | (go_at_call 24;refine (HLV.out _ B2.out).mono ?_;rintro e w3 ⟨A3,m3,c3,P3,rfl,ho,hl,hm,hb⟩;have HO3:=Za ho
       have HL3:=Za (And.intro hl hm);have R43:=Za (R42.out.kept hb);have R63:=Za (R62.out.kept hb);have B3:=Za (below_nxt hb B2.out);clear ho hl hm hb)
    | (refine step_load rfl 21 rfl 43 (.tmp 4) rfl g4 rfl (ncs v) _ R43.out.all Yh rfl (i2.out _) ?_;have HK3:=Za (HK.out.below B3.out))
    | (refine step_store rfl 43 (.tmp 6) (.tmp 21) rfl g6 rfl _ _ (ncs v) rfl R63.out rfl (i2.out _) (ncs_one _) ?_;intro w9 hr9 hg9 hs9;have R69:=Za hr9
       have HK9:=Za (HK3.out.other R63.out (by decide) (by have:=HLO.out;have:=G6.out;omega) (Chg.one hg9));have HC9:=Za (p:=Chg [gd] w w9) (chg_own (Chg.of B3.out) G6.out.1 (Chg.one hg9));clear hr9 hg9 hs9))
  refine Yd (results_cell_row rfl _ _ g6 _ _ _ _ rfl R69.out Yh rfl (by simpa using i2.out _)) rfl ?_;exact ⟨rfl,HK9,HC9⟩
def PutY (b:Nat) (w:World) (gd gv gm gs r:Nat) (Bs:List BV) (N n:Nat) (Xl:List Ent) (e:Ending) (w':World):Prop:=
  ∃ (v2 R2:Nat→Int) (X2:DX) (F2:Nat→UInt8),e=.returned (.agg (ncs v2).toArray)∧Hid (DF Bs X2 v2 R2 (leaves Xl).length F2)∧Hid (lst ((leaves Xl).length*256) F2=(leaves Xl).flatten)∧Hid (DK b w' gd gv gm gs r Bs N (n+261) X2)∧Hid (Chg [gd,gm] w w')
theorem DF.rewrite (h:DF Bs X v R k F) (k2 M:Nat) (hM2:k2*256=M) (hk2:k≤k2) (h8:k2≤8) (A:Option Addr) (c:Nat) (l:L8) (hM:l.length=M) (hlc:M≤c) (hn:n+130≤2999) (hN:N≤256) (hroom:12≤N)
    (hk:DK b w gd gv gm gs r Bs N n X) (hD:∀ W,Chg [gd,gm] w W→Hol W A l):Calls Tryz.prog 20 #[.pointer (some ⟨gd,0,none⟩),.agg (ncs v).toArray,.int .i64 0,.slice A M c] w fun ee w'=>∃ (v2 R2:Nat→Int) (X2:DX) (F2:Nat→UInt8),ee=.returned (.agg (ncs v2).toArray)∧Hid (DF Bs X2 v2 R2 k2 F2)∧Hid (lst M F2=l)∧Hid (DK b w' gd gv gm gs r Bs N (n+130) X2)∧Hid (Chg [gd,gm] w w'):=by
  by_cases h0:k2=0
  · subst h0;have hk0:k=0:=by omega
    subst hk0;rw [Nat.zero_mul] at hM2;subst hM2;have hl0:l=[]:=Zk hM;refine (dwrite_none v A c 0 hk (by omega)).mono ?_;rintro e w' ⟨rfl,hk2,hc2⟩;exact ⟨v,R,X,F,rfl,Za h,Za (by rw [hl0];rfl),Za (hk2.out.mono (by omega)),Za (hc2.out.wider (fun x hx=>.inl (by simp at hx ⊢;exact .inl hx)))⟩
  · refine (h.write k2 hk2 (by omega) (by omega) A c M l hM hM2 hlc hn hN (by omega) hk hD (F2:=fun i=>if i<M then l.getD i 0 else F i) (fun i=>rfl)).mono ?_;rintro e w' ⟨v2,R2,X2,rfl,h1,h2,h3⟩;exact ⟨v2,R2,X2,_,rfl,h1,Za (lst_of hM (fun i hi=>if_pos hi)),h2,h3⟩
theorem dirput_yes (h:DF Bs X v R k F) (Xl:List Ent) (A:Option Addr) (q c:Nat) (hq:Xl.length=q) (hq2:q≤100000) (hqc:q≤c) (hl:Lies ecs 5 w A Xl) (hnm:∀ e ∈ Xl,e.nm.size≤4294967296) (hw:Wide Xl) (hk:DK b w gd gv gm gs r Bs N n X) (hT:∀ W,Chg [gd,gm] w W→Tabs W) (hm:MayL Xl) (hn:n+261≤2999) (hN:N≤256) (hroom:12≤N):
    Calls Tryz.prog 14 #[.pointer (some ⟨gd,0,none⟩),.agg (ncs v).toArray,.slice A q c] w (PutY b w gd gv gm gs r Bs N n Xl):=by
  have HK:=Za hk;have HT:=Za hT;have HLO:=Za (p:=b≤w.heap.size) hk.lo.2.2;have HLT:=Za (p:=gd<w.heap.size∧gm<w.heap.size) ⟨hk.lt,by obtain ⟨C,h2,_⟩:=hk.view;exact h2.map.lt⟩;have i2:=Za (fun v=>info_ncs v);have hzi:=Za zero_ino;have HLV:=Za (p:=∀ W,Below w.heap.size w W→Calls Tryz.prog 24 #[.slice A q c] W (LvP W (lvL Xl) (lvE Xl))) (fun W hb=>leaves_any A q c Xl (by omega) W (hl.below hb) hq hqc hnm hw (hT W (Chg.of hb)));have he:lvE Xl=0:=by unfold lvE;rw [if_pos hm]
  have hlv:lvL Xl=leaves Xl:=by unfold lvL;rw [if_pos hm]
  rw [he,hlv] at HLV;obtain ⟨L,hLL⟩:∃ L,leaves Xl=L:=⟨_,rfl⟩;obtain ⟨k2,hk2⟩:∃ k2,L.length=k2:=⟨_,rfl⟩;obtain ⟨M,hM⟩:∃ M,k2*256=M:=⟨_,rfl⟩;obtain ⟨k3,hk3⟩:∃ k3,min k k2=k3:=⟨_,rfl⟩;obtain ⟨z3,hz3⟩:∃ z3,k3*256=z3:=⟨_,rfl⟩;obtain ⟨K,hK⟩:∃ K,k*256=K:=⟨_,rfl⟩;have h8:k2≤8:=by rw [← hk2, ← hLL];exact leaves_eight hm
  have h256:∀ x ∈ L,x.length=256:=by rw [← hLL];exact leaves_256
  have hlim:=h.lim;have hmax:(if (0:Int) > (K:Int) then 0 else (K:Int))=(K:Int):=if_neg (by omega)
  have hmin:(if (M:Int)<(K:Int) then (M:Int) else (K:Int))=(z3:Int):=by
    by_cases hkk:k≤k2
    · have e1:k3=k:=by omega
      have h5:k*256≤k2*256:=Nat.mul_le_mul_right _ hkk;rw [if_neg (by omega), ← hz3,e1,hK]
    · have e1:k3=k2:=by omega
      have h5:k2*256<k*256:=Nat.mul_lt_mul_of_pos_right (by omega) (by decide);rw [if_pos (by omega), ← hz3,e1,hM]
  have HSZ:=Za (p:=v 5=(K:Int)) (by rw [h.size,hK]);have HCUT:=Za (p:=∀ W,DK b W gd gv gm gs r Bs N n X→Calls Tryz.prog 21 #[.pointer (some ⟨gd,0,none⟩),.agg (ncs v).toArray,.int .i64 (z3:Int)] W fun ee w'=>∃ (v2 R2:Nat→Int) (X2:DX),ee=.returned (.agg (ncs v2).toArray)∧Hid (DF Bs X2 v2 R2 k3 (fun i=>if i<z3 then F i else 0))∧Hid (DK b w' gd gv gm gs r Bs N (n+131) X2)∧Hid (Chg [gd,gm] W w')) (fun W hW=>h.cut k3 z3 hz3 (by omega) (by omega) hW (fun i=>rfl));have HNUM:=Za (p:=k2*256=M∧k3≤k2∧k2≤8∧L.length=k2∧n+261≤2999∧N≤256∧12≤N) ⟨hM,by omega,h8,hk2,hn,hN,hroom⟩;have H256:=Za h256
  have HPOST:=Za (p:=∀ e w',(∃ (v2 R2:Nat→Int) (X2:DX) (F2:Nat→UInt8),e=Ending.returned (.agg (ncs v2).toArray)∧Hid (DF Bs X2 v2 R2 k2 F2)∧Hid (lst M F2=L.flatten)∧Hid (DK b w' gd gv gm gs r Bs N (n+261) X2)∧Hid (Chg [gd,gm] w w'))→PutY b w gd gv gm gs r Bs N n Xl e w') (fun e w' hh=>by
    unfold PutY;rw [hLL,hk2,hM];exact hh)
  have hkM:(k2:Int)*256=(M:Int):=by rw [← hM];omega
  rw [hLL] at HLV;clear h hk hT hl hq hqc hnm hw hm he hlv hLL hk2 hM hk3 hz3 hK h8 h256 hlim hn hN hroom;go_enter Tryz.func14,Tryz.ntmps14
  go_wp2_with (first
    | (refine step_box rfl 4 rfl 43 (.tmp 1) rfl (ncs v) rfl ?_;intro g4 w1 hr2 hg2 hb2 hs2;have R41:=Za hr2
       have B1:=Za hb2;have G4:=Za (p:=w.heap.size≤g4) (Nat.le_of_eq hg2.out.symm);clear hr2 hg2 hb2 hs2)
    | (refine step_alloc rfl 6 rfl 43 rfl _ hzi.out ?_;intro g6 w2 hr3 hg3 hb3 hs3;have R62:=Za hr3
       have R42:=Za (R41.out.kept hb3);have B2:=Za (below_nxt hb3 B1.out);have G6:=Za (p:=w.heap.size≤g6∧g4<g6) (by rw [hg3.out];exact ⟨B1.out.size,R41.out.lt⟩);clear hr3 hg3 hb3 hs3)
    | (go_at_call 24;refine (HLV.out _ B2.out).mono ?_;rintro e w3 ⟨A3,m3,c3,P3,rfl,ho,hl,hm,hb⟩;have HO3:=Za ho
       have HL3:=Za (And.intro hl hm);have R43:=Za (R42.out.kept hb);have R63:=Za (R62.out.kept hb);have B3:=Za (below_nxt hb B2.out);have hm3:m3=k2:=by rw [← HNUM.out.2.2.2.1, ← hl,List.length_map];exact ho.2.1.symm
       have HJ:=Za (join_any _ A3 m3 c3 P3 w3 ho (fun x hx=>H256.out _ (by rw [← hl];exact List.mem_map.2 ⟨x,hx,rfl⟩)) (by have:=HNUM.out.2.2.1;omega));rw [hl,hm3,HNUM.out.1] at HJ;rw [hm3];unfold JoinP at HJ;clear ho hl hm hb hm3)
    | (go_at_call 35;refine HJ.out.mono ?_;rintro e w4 ⟨A4,c4,rfl,hh,hb⟩;have HH4:=hh
       have R44:=Za (R43.out.kept hb.out);have R64:=Za (R63.out.kept hb.out);have B4:=Za (below_nxt hb.out B3.out);have HW34:=Za (p:=w.heap.size≤w3.heap.size) B3.out.size;have HK4:=Za (HK.out.below B4.out);have c5:w4.cell? ⟨g4,5,none⟩=some (.int .i64 (K:Int)):=by rw [← HSZ.out];exact (R44.out.cell 5).trans rfl
       clear hh hb HJ)
    | (refine step_load rfl 26 rfl 43 (.tmp 4) rfl g4 rfl (ncs v) _ R44.out.all Yh rfl (i2.out _) ?_)
    | (refine wp_max rfl _ _ _ rfl (K:Int) 0 (K:Int) rfl rfl hmax ?_)
    | (refine wp_min rfl _ _ _ rfl (K:Int) (M:Int) (z3:Int) rfl rfl hmin ?_)
    | (go_at_call 21;refine (HCUT.out _ HK4.out).mono ?_;rintro e w5 ⟨v5,R5,X5,rfl,hd,hk,hc⟩;have HD5:=hd
       have HK5:=hk;have HC5:=Za (p:=Chg [gd,gm] w w5) ((Chg.of B4.out).trans hc.out (fun x hx=>.inl hx));have R65:=Za (hc.out.row R64.out (by have h1:=HLT.out;have h2:=G6.out;simp;omega));have HH5:=Za (p:=∀ W,Chg [gd,gm] w4 W→Hol W A4 L.flatten) (fun W hW=>Chg.hol HH4.out.1 hW (fun g o e _ hx=>by have h1:=HH4.out.2.2 g o e;have h2:=HLT.out;have h3:=HW34.out;simp at hx;omega));have HC45:=hc;clear hd hk hc c5)
    | (go_at_call 20;refine (HD5.out.rewrite k2 M HNUM.out.1 HNUM.out.2.1 HNUM.out.2.2.1 A4 c4 L.flatten (by rw [flat_256 L H256.out,HNUM.out.2.2.2.1];exact HNUM.out.1) HH4.out.2.1 (by have:=HNUM.out.2.2.2.2.1;omega) HNUM.out.2.2.2.2.2.1 HNUM.out.2.2.2.2.2.2 HK5.out (fun W hW=>HH5.out W (HC45.out.trans hW (fun x hx=>.inl hx)))).mono ?_;rintro e w6 ⟨v6,R6,X6,F6,rfl,hd,hf,hk,hc⟩;have HD6:=hd
       have HF6:=hf;have HK6:=Za (hk.out.mono (show n+131+130≤n+261 by omega));have HC6:=Za (p:=Chg [gd,gm] w w6) (HC5.out.trans hc.out (fun x hx=>.inl hx));have R66:=Za (hc.out.row R65.out (by have h1:=HLT.out;have h2:=G6.out;simp;omega));clear hd hf hk hc)
    | (refine step_store rfl 43 (.tmp 6) (.tmp 35) rfl g6 rfl _ _ (ncs v6) rfl R66.out rfl (i2.out _) (ncs_one _) ?_;intro w9 hr9 hg9 hs9;have R69:=Za hr9
       have HK9:=Za (HK6.out.other R66.out (by decide) (by have:=HLO.out;have:=G6.out;omega) (Chg.one hg9));have HC9:=Za (p:=Chg [gd,gm] w w9) (chg_own HC6.out G6.out.1 (Chg.one hg9));clear hr9 hg9 hs9))
  refine Yd (results_cell_row rfl _ _ g6 _ _ _ _ rfl R69.out Yh rfl (by simpa using i2.out _)) rfl ?_;exact HPOST.out _ _ ⟨v6,R6,X6,F6,rfl,HD6,HF6,HK9,HC9⟩
end
/- The reference's functions on bytes,for every argument (bytes of at most 2^45). No other conditions. -/
theorem rput_arg (v:Value) (size:Int) (x:Nat) (w:World) (h:wid size=0):
    Calls Tryz.prog 84 #[v,.int .i64 size,.int .u64 x] w fun e w'=>e=.returned (.tuple #[.slice none 0 0,.int .i64 201])∧w=w':=by
  have h0:size≠1∧size≠2∧size≠4∧size≠8:=by
    unfold wid at h
    repeat' split at h
    all_goals first | (exfalso;omega) | (refine ⟨?_,?_,?_,?_⟩ <;> assumption)
  have h1:(size !=1)=true:=by rw [bne_iff_ne];exact h0.1
  have h2:(size !=2)=true:=by rw [bne_iff_ne];exact h0.2.1
  have h4:(size !=4)=true:=by rw [bne_iff_ne];exact h0.2.2.1
  have h8:(size !=8)=true:=by rw [bne_iff_ne];exact h0.2.2.2
  clear h h0;go_enter Tryz.func84,Tryz.ntmps84;go_wp2;go_ret2;exact ⟨rfl,rfl⟩
theorem div_step (x k:Nat):((x / 256 ^ k:Nat):Int) / 256=((x / 256 ^ (k+1):Nat):Int):=by
  rw [Nat.pow_succ, ← Nat.div_div_eq_div_mul];omega
theorem byte_mod (x k:Nat):((x / 256 ^ k:Nat):Int) % 256=((UInt8.ofNat (x / 256 ^ k)).toNat:Int):=by
  have e:(UInt8.ofNat (x / 256 ^ k)).toNat=x / 256 ^ k % 256:=UInt8.toNat_ofNat' ..;rw [e];omega
theorem rput_go (A:Option Addr) (c:Nat) (l:List UInt8) (k:Nat) (x:Nat) (w:World) (hA:Hol w A l) (hx:x<18446744073709551616) (hl:l.length≤35184372088832) (hk:1≤k) (hk8:k≤8)
    (h:((k:Int) !=1)=false∨((k:Int) !=1)=true∧((k:Int) !=2)=false∨((k:Int) !=1)=true∧((k:Int) !=2)=true∧((k:Int) !=4)=false∨((k:Int) !=1)=true∧((k:Int) !=2)=true∧((k:Int) !=4)=true∧((k:Int) !=8)=false):
    Calls Tryz.prog 84 #[.slice A l.length c,.int .i64 k,.int .u64 x] w (BytesPostD w (if x / 256 ^ k≠0 then ([],202) else (l++leb x k,0))):=by
  obtain ⟨i,U⟩:=u8_tableD;generalize hR:(if x / 256 ^ k≠0 then (([]:List UInt8),(202:Int)) else (l++leb x k,0))=R;have HR:=Za hR;clear hR;have hown0:∀ W:World,(W.alloc (.cells #[] 5)).ownsRow W.heap.size 5 1 (.slice (some ⟨W.heap.size,0,none⟩) 0 0) 0 []:=fun W=>World.ownsRow_made W #[] 0 (Zj _) (by decide) rfl;have HO:=Za hown0;clear hown0;rcases h with h | ⟨h,h2⟩ | ⟨h,h2,h3⟩ | ⟨h,h2,h3,h4⟩
  all_goals
    go_enter Tryz.func84,Tryz.ntmps84;go_wp2_with (at_builtin;refine wpList_app _ rfl (.tmp 24) (.tmp 25) _ rfl 5 i U w.heap.size _ 0 [] rfl (HO.out w) A l.length c l rfl rfl (hA.below (below_of_grown (World.grownBy_alloc w _ none))) (by omega) (by simp) ?_;intro v1 w1 hown1 hg1 hat1)
  all_goals
    have hb1:Below w.heap.size w w1:=(below_of_grown (World.grownBy_alloc w _ none)).grown hg1 (by simp) (fun k hk=>((HO.out w).lt k hk).1);have hown2:w1.ownsRow w.heap.size 5 1 v1 (l.length+0) (bc (l++leb x 0)):=by simpa [leb] using hown1
    clear hown1 hg1 hat1;go_loopw [2,8,9] (fun y s i wr=>∃ j:Nat,j≤k∧i=.int .i64 j∧y=.int .u64 (x / 256 ^ j:Nat)∧wr.ownsRow w.heap.size 5 1 s (l.length+j) (bc (l++leb x j))∧Below w.heap.size w wr) (fun _ _ i _=>k - (intOf i).toNat)
    case atStart=>exact ⟨0,Nat.zero_le _,rfl,by simp,hown2,hb1⟩
    case round=>
      obtain ⟨j,hj,rfl,rfl,hown3,hb3⟩:=hrel;have hY:x / 256 ^ j<18446744073709551616:=Nat.lt_of_le_of_lt (Nat.div_le_self _ _) hx;have hd1:=div_step x j;have hm1:=byte_mod x j;by_cases hlt:j<k
      · generalize hy:x / 256 ^ j=y at*;have HD:=Za hd1;have HM:=Za hm1;have HY:=Za hy;clear hd1 hm1 hy;go_wp2_with (at_builtin;refine wpList_app _ rfl _ _ _ rfl 5 i U w.heap.size _ (l.length+j) _ rfl (hown3.alloc _) (some ⟨wr.heap.size,0,none⟩) 1 1 [UInt8.ofNat y] rfl rfl (hol_oneD _ _ _ _ (by exact HM.out)) (by omega) (by have:=hb3.size;simp;omega) ?_;intro v4 w4 hown4 hg4 hat4);have hb4:Below w.heap.size w w4:=(hb3.alloc hb3.size _).grown hg4 (by have:=hb3.size;simp;omega) (fun q hq=>(hown3.lt q hq).1)
        have hown5:w4.ownsRow w.heap.size 5 1 v4 (l.length+(j+1)) (bc (l++leb x (j+1))):=by
          rw [leb_succ,HY.out, ← Zi,bc_app];exact hown4
        clear hown4 hg4 hat4;go_roundw
        case rel=>exact ⟨j+1,by omega,by go_num,by rw [← HD.out],hown5,hb4⟩
        case measure=>simp [intOf];omega
      · have hjk:j=k:=by omega
        subst hjk;clear hd1 hm1;by_cases hz:x / 256 ^ j=0
        · have hzz:((x / 256 ^ j:Nat):Int)=0:=by rw [hz];rfl
          have hR:R=(l++leb x j,0):=by rw [← HR.out,if_neg (by simp [hz])]
          subst hR;generalize hy:x / 256 ^ j=y at*;subst hz;have HY:=Za hy;clear hzz hy;go_wp2;go_ret2;refine ⟨_,rfl,?_,hb3⟩;show wr.ownsRow _ _ _ _ (l++leb x j).length _;rw [Zf,leb_len];exact hown3
        · have hR:R=([],202):=by rw [← HR.out,if_pos hz]
          subst hR;generalize hy:x / 256 ^ j=y at*;have HY:=Za hy;have hyz:(0:Int)<(y:Int):=by omega
          clear hy;go_wp2;go_ret2;exact ⟨_,rfl,Ye _ _ _ _,hb3⟩
end Go.Proofs.YtijffkklhgnknaaGreatDoor
