/- Whether an entry may be. Conditions: the library's tables lie there. -/
import Derived.Test.YtijffkklhgnknaaGreatDoorAz
import Derived.Test.YtijffkklhgnknaaGreatDoorMgRe
import Derived.Test.YtijffkklhgnknaaGreatDoorMgMem
import Derived.ProofKit
import Derived.OpenShut
import Derived.Lib.LaidU8
import Derived.Lib.SmallJoins
import Derived.Deep.SlicePairs
import Derived.Test.YtijffkklhgnknaaGreatDoorCards
import Derived.Test.YtijffkklhgnknaaGreatDoorTie
import Derived.Test.YtijffkklhgnknaaGreatDoorRows
import Derived.Test.YtijffkklhgnknaaGreatDoorMgChg
import Derived.Test.YtijffkklhgnknaaGreatDoorMgNames
import Derived.Carry
import Derived.SizedLaws
import Derived.ShutString
import Derived.Deep.DeepHandedRow
import Derived.Lib.LaidTab
import Derived.BigQuiet
import Derived.Deep.QuietTactic
set_option maxHeartbeats 20000000
set_option linter.unusedVariables false
set_option maxRecDepth 20000
namespace Go.Proofs.YtijffkklhgnknaaGreatDoor
open Go.RowKit
def MayE (e:Ent):Prop:=nameR e.nm.data.toList=0∧1≤e.kind∧e.kind≤3∧1≤e.ino∧e.ino≤64∧e.ser≠0∧e.ck≠0
instance (e:Ent):Decidable (MayE e):=by unfold MayE;infer_instance
theorem maye_any (x : Ent) (w:World) (hs:x.nm.size≤9223372036854775807) (hT:Tabs w):Calls Tryz.prog 94 #[.agg (ecs x).toArray] w fun e w'=>e=.returned (.bool (decide (MayE x)))∧Below w.heap.size w w':=by
  have HS:=Za (And.intro hs hT);clear hs hT;obtain ⟨z,hz⟩:∃ z:Bool,decide (MayE x)=z:=⟨_,rfl⟩;rw [hz];obtain ⟨r,hr⟩:∃ r:Int,nameR x.nm.data.toList=r:=⟨_,rfl⟩;obtain ⟨nm,ino,ser,kind,ck⟩:=x;have hM:z=decide (r=0∧1≤kind∧kind≤3∧1≤ino∧ino≤64∧ser≠0∧ck≠0):=by rw [← hz, ← hr];rfl
  have HM:=Za hM;have HR:=Za hr;clear hz hr hM;by_cases a0:r=0
  · by_cases a1 : 1 ≤ kind
    · by_cases a2 : kind≤3
      · by_cases a3 : 1≤ino
        · by_cases a4 :ino≤64
          · by_cases a5:ser=0
            · have hz:z=false:=by rw [HM.out];exact decide_eq_false (fun h=>by obtain ⟨h1,h2,h3,h4,h5,h6,h7⟩:=h;first | contradiction | omega)
              subst hz;clear HM;have b5:((ser:Nat):Int)=0:=by omega
              go_enter Tryz.func94,Tryz.ntmps94
              go_wp2_with (first
                | (refine step_box rfl 1 rfl 61 (.tmp 0) rfl (ecs ⟨nm,ino,ser,kind,ck⟩) rfl ?_;intro g2 w2 hr2 hg2 hb2 hs2;have HB:=Za hb2
                   have HR2:=Za hr2;have c0:w2.cell? ⟨g2,0,none⟩=some (.string nm):=(hr2.cell 0).trans rfl;clear hr2 hg2 hb2 hs2)
                | (go_at_call 123;refine (name_any nm w2 HS.out.1 (tabs_below HS.out.2 HB.out)).mono ?_;rintro e w3 ⟨rfl,hb⟩;have HB3:=Za (below_nxt hb HB.out)
                   have hr3:=HR2.out.kept hb;have c1:w3.cell? ⟨g2,1,none⟩=some (.int .i64 ino):=(hr3.cell 1).trans rfl;have c2:w3.cell? ⟨g2,2,none⟩=some (.int .u64 (ser:Int)):=(hr3.cell 2).trans rfl;have c3:w3.cell? ⟨g2,3,none⟩=some (.int .i64 kind):=(hr3.cell 3).trans rfl;have c4:w3.cell? ⟨g2,4,none⟩=some (.int .u32 (ck:Int)):=(hr3.cell 4).trans rfl;rw [HR.out];clear hr3 hb))
              go_ret;exact ⟨rfl,HB3.out⟩
            · have b5 :¬ ((ser:Nat):Int)=0:=by omega
              by_cases a6:ck=0
              · have hz:z=false:=by rw [HM.out];exact decide_eq_false (fun h=>by obtain ⟨h1,h2,h3,h4,h5,h6,h7⟩:=h;first | contradiction | omega)
                subst hz;clear HM;have b6:((ck:Nat):Int)=0:=by omega
                go_enter Tryz.func94,Tryz.ntmps94
                go_wp2_with (first
                  | (refine step_box rfl 1 rfl 61 (.tmp 0) rfl (ecs ⟨nm,ino,ser,kind,ck⟩) rfl ?_;intro g2 w2 hr2 hg2 hb2 hs2;have HB:=Za hb2
                     have HR2:=Za hr2;have c0:w2.cell? ⟨g2,0,none⟩=some (.string nm):=(hr2.cell 0).trans rfl;clear hr2 hg2 hb2 hs2)
                  | (go_at_call 123;refine (name_any nm w2 HS.out.1 (tabs_below HS.out.2 HB.out)).mono ?_;rintro e w3 ⟨rfl,hb⟩;have HB3:=Za (below_nxt hb HB.out)
                     have hr3:=HR2.out.kept hb;have c1:w3.cell? ⟨g2,1,none⟩=some (.int .i64 ino):=(hr3.cell 1).trans rfl;have c2:w3.cell? ⟨g2,2,none⟩=some (.int .u64 (ser:Int)):=(hr3.cell 2).trans rfl;have c3:w3.cell? ⟨g2,3,none⟩=some (.int .i64 kind):=(hr3.cell 3).trans rfl;have c4:w3.cell? ⟨g2,4,none⟩=some (.int .u32 (ck:Int)):=(hr3.cell 4).trans rfl;rw [HR.out];clear hr3 hb))
                go_ret;exact ⟨rfl,HB3.out⟩
              · have b6:¬ ((ck:Nat):Int)=0:=by omega
                have hz:z=true:=by rw [HM.out];exact decide_eq_true (by refine ⟨?_,?_,?_,?_,?_,?_,?_⟩ <;> first | assumption | omega)
                subst hz;clear HM;have d5:((ser:Int) !=0)=true:=bne_iff_ne.2 b5;have d6:((ck:Int) !=0)=true:=bne_iff_ne.2 b6;go_enter Tryz.func94,Tryz.ntmps94
                go_wp2_with (first
                  | (refine step_box rfl 1 rfl 61 (.tmp 0) rfl (ecs ⟨nm,ino,ser,kind,ck⟩) rfl ?_;intro g2 w2 hr2 hg2 hb2 hs2;have HB:=Za hb2
                     have HR2:=Za hr2;have c0:w2.cell? ⟨g2,0,none⟩=some (.string nm):=(hr2.cell 0).trans rfl;clear hr2 hg2 hb2 hs2)
                  | (go_at_call 123;refine (name_any nm w2 HS.out.1 (tabs_below HS.out.2 HB.out)).mono ?_;rintro e w3 ⟨rfl,hb⟩;have HB3:=Za (below_nxt hb HB.out)
                     have hr3:=HR2.out.kept hb;have c1:w3.cell? ⟨g2,1,none⟩=some (.int .i64 ino):=(hr3.cell 1).trans rfl;have c2:w3.cell? ⟨g2,2,none⟩=some (.int .u64 (ser:Int)):=(hr3.cell 2).trans rfl;have c3:w3.cell? ⟨g2,3,none⟩=some (.int .i64 kind):=(hr3.cell 3).trans rfl;have c4:w3.cell? ⟨g2,4,none⟩=some (.int .u32 (ck:Int)):=(hr3.cell 4).trans rfl;rw [HR.out];clear hr3 hb))
                go_ret;exact ⟨rfl,HB3.out⟩
          · have hz:z=false:=by rw [HM.out];exact decide_eq_false (fun h=>by obtain ⟨h1,h2,h3,h4,h5,h6,h7⟩:=h;first | contradiction | omega)
            subst hz;clear HM;go_enter Tryz.func94,Tryz.ntmps94
            go_wp2_with (first
              | (refine step_box rfl 1 rfl 61 (.tmp 0) rfl (ecs ⟨nm,ino,ser,kind,ck⟩) rfl ?_;intro g2 w2 hr2 hg2 hb2 hs2;have HB:=Za hb2
                 have HR2:=Za hr2;have c0:w2.cell? ⟨g2,0,none⟩=some (.string nm):=(hr2.cell 0).trans rfl;clear hr2 hg2 hb2 hs2)
              | (go_at_call 123;refine (name_any nm w2 HS.out.1 (tabs_below HS.out.2 HB.out)).mono ?_;rintro e w3 ⟨rfl,hb⟩;have HB3:=Za (below_nxt hb HB.out)
                 have hr3:=HR2.out.kept hb;have c1:w3.cell? ⟨g2,1,none⟩=some (.int .i64 ino):=(hr3.cell 1).trans rfl;have c2:w3.cell? ⟨g2,2,none⟩=some (.int .u64 (ser:Int)):=(hr3.cell 2).trans rfl;have c3:w3.cell? ⟨g2,3,none⟩=some (.int .i64 kind):=(hr3.cell 3).trans rfl;have c4:w3.cell? ⟨g2,4,none⟩=some (.int .u32 (ck:Int)):=(hr3.cell 4).trans rfl;rw [HR.out];clear hr3 hb))
            go_ret;exact ⟨rfl,HB3.out⟩
        · have hz:z=false:=by rw [HM.out];exact decide_eq_false (fun h=>by obtain ⟨h1,h2,h3,h4,h5,h6,h7⟩:=h;first | contradiction | omega)
          subst hz;clear HM;go_enter Tryz.func94,Tryz.ntmps94
          go_wp2_with (first
            | (refine step_box rfl 1 rfl 61 (.tmp 0) rfl (ecs ⟨nm,ino,ser,kind,ck⟩) rfl ?_;intro g2 w2 hr2 hg2 hb2 hs2;have HB:=Za hb2
               have HR2:=Za hr2;have c0:w2.cell? ⟨g2,0,none⟩=some (.string nm):=(hr2.cell 0).trans rfl;clear hr2 hg2 hb2 hs2)
            | (go_at_call 123;refine (name_any nm w2 HS.out.1 (tabs_below HS.out.2 HB.out)).mono ?_;rintro e w3 ⟨rfl,hb⟩;have HB3:=Za (below_nxt hb HB.out)
               have hr3:=HR2.out.kept hb;have c1:w3.cell? ⟨g2,1,none⟩=some (.int .i64 ino):=(hr3.cell 1).trans rfl;have c2:w3.cell? ⟨g2,2,none⟩=some (.int .u64 (ser:Int)):=(hr3.cell 2).trans rfl;have c3:w3.cell? ⟨g2,3,none⟩=some (.int .i64 kind):=(hr3.cell 3).trans rfl;have c4:w3.cell? ⟨g2,4,none⟩=some (.int .u32 (ck:Int)):=(hr3.cell 4).trans rfl;rw [HR.out];clear hr3 hb))
          go_ret;exact ⟨rfl,HB3.out⟩
      · have hz:z=false:=by rw [HM.out];exact decide_eq_false (fun h=>by obtain ⟨h1,h2,h3,h4,h5,h6,h7⟩:=h;first | contradiction | omega)
        subst hz;clear HM;go_enter Tryz.func94,Tryz.ntmps94
        go_wp2_with (first
          | (refine step_box rfl 1 rfl 61 (.tmp 0) rfl (ecs ⟨nm,ino,ser,kind,ck⟩) rfl ?_;intro g2 w2 hr2 hg2 hb2 hs2;have HB:=Za hb2
             have HR2:=Za hr2;have c0:w2.cell? ⟨g2,0,none⟩=some (.string nm):=(hr2.cell 0).trans rfl;clear hr2 hg2 hb2 hs2)
          | (go_at_call 123;refine (name_any nm w2 HS.out.1 (tabs_below HS.out.2 HB.out)).mono ?_;rintro e w3 ⟨rfl,hb⟩;have HB3:=Za (below_nxt hb HB.out)
             have hr3:=HR2.out.kept hb;have c1:w3.cell? ⟨g2,1,none⟩=some (.int .i64 ino):=(hr3.cell 1).trans rfl;have c2:w3.cell? ⟨g2,2,none⟩=some (.int .u64 (ser:Int)):=(hr3.cell 2).trans rfl;have c3:w3.cell? ⟨g2,3,none⟩=some (.int .i64 kind):=(hr3.cell 3).trans rfl;have c4:w3.cell? ⟨g2,4,none⟩=some (.int .u32 (ck:Int)):=(hr3.cell 4).trans rfl;rw [HR.out];clear hr3 hb))
        go_ret;exact ⟨rfl,HB3.out⟩
    · have hz:z=false:=by rw [HM.out];exact decide_eq_false (fun h=>by obtain ⟨h1,h2,h3,h4,h5,h6,h7⟩:=h;first | contradiction | omega)
      subst hz;clear HM;go_enter Tryz.func94,Tryz.ntmps94
      go_wp2_with (first
        | (refine step_box rfl 1 rfl 61 (.tmp 0) rfl (ecs ⟨nm,ino,ser,kind,ck⟩) rfl ?_;intro g2 w2 hr2 hg2 hb2 hs2;have HB:=Za hb2
           have HR2:=Za hr2;have c0:w2.cell? ⟨g2,0,none⟩=some (.string nm):=(hr2.cell 0).trans rfl;clear hr2 hg2 hb2 hs2)
        | (go_at_call 123;refine (name_any nm w2 HS.out.1 (tabs_below HS.out.2 HB.out)).mono ?_;rintro e w3 ⟨rfl,hb⟩;have HB3:=Za (below_nxt hb HB.out)
           have hr3:=HR2.out.kept hb;have c1:w3.cell? ⟨g2,1,none⟩=some (.int .i64 ino):=(hr3.cell 1).trans rfl;have c2:w3.cell? ⟨g2,2,none⟩=some (.int .u64 (ser:Int)):=(hr3.cell 2).trans rfl;have c3:w3.cell? ⟨g2,3,none⟩=some (.int .i64 kind):=(hr3.cell 3).trans rfl;have c4:w3.cell? ⟨g2,4,none⟩=some (.int .u32 (ck:Int)):=(hr3.cell 4).trans rfl;rw [HR.out];clear hr3 hb))
      go_ret;exact ⟨rfl,HB3.out⟩
  · have hz:z=false:=by rw [HM.out];exact decide_eq_false (fun h=>by obtain ⟨h1,h2,h3,h4,h5,h6,h7⟩:=h;first | contradiction | omega)
    subst hz;clear HM;go_enter Tryz.func94,Tryz.ntmps94
    go_wp2_with (first
      | (refine step_box rfl 1 rfl 61 (.tmp 0) rfl (ecs ⟨nm,ino,ser,kind,ck⟩) rfl ?_;intro g2 w2 hr2 hg2 hb2 hs2;have HB:=Za hb2
         have HR2:=Za hr2;have c0:w2.cell? ⟨g2,0,none⟩=some (.string nm):=(hr2.cell 0).trans rfl;clear hr2 hg2 hb2 hs2)
      | (go_at_call 123;refine (name_any nm w2 HS.out.1 (tabs_below HS.out.2 HB.out)).mono ?_;rintro e w3 ⟨rfl,hb⟩;have HB3:=Za (below_nxt hb HB.out)
         have hr3:=HR2.out.kept hb;have c1:w3.cell? ⟨g2,1,none⟩=some (.int .i64 ino):=(hr3.cell 1).trans rfl;have c2:w3.cell? ⟨g2,2,none⟩=some (.int .u64 (ser:Int)):=(hr3.cell 2).trans rfl;have c3:w3.cell? ⟨g2,3,none⟩=some (.int .i64 kind):=(hr3.cell 3).trans rfl;have c4:w3.cell? ⟨g2,4,none⟩=some (.int .u32 (ck:Int)):=(hr3.cell 4).trans rfl;rw [HR.out];clear hr3 hb))
    go_ret;exact ⟨rfl,HB3.out⟩
/- Whether a directory may be. Conditions:no more than a million entries,names no longer than 2^32,the library's tables lie there. -/
def MayL (X:List Ent):Prop:=X.length≤32∧(∀ e ∈ X,MayE e)∧Rises X∧Apart X
def MayP (X:List Ent) (e:Ending):Prop:=∃ z:Bool,e=.returned (.bool z)∧(z=true↔MayL X)
theorem maybe_dir (A:Option Addr) (n c:Nat) (X:List Ent) (hmax:n≤1000000) (w:World) (h:Lies ecs 5 w A X) (hn:X.length=n) (hnm:∀ e ∈ X,e.nm.size≤4294967296) (hT:Tabs w):
    Calls Tryz.prog 60 #[.slice A n c] w fun e w'=>MayP X e∧Below w.heap.size w w':=by
  have H:=Za h;have HN:=Za (And.intro hmax hn);have HNM:=Za hnm;have HT:=Za hT;clear h hmax hn hnm hT;by_cases hbig:32<n
  · have hbi:(32:Int)<(n:Int):=by omega
    have HBG:=Za hbig;clear hbig;go_enter Tryz.func60,Tryz.ntmps60;go_wp2;go_ret;exact ⟨⟨false,rfl,⟨(fun h=>by cases h),fun h=>absurd h.1 (by have:=HBG.out;have:=HN.out;omega)⟩⟩,Below.refl _ _⟩
  have hbi:¬ (32:Int)<(n:Int):=by omega
  have HBG:=Za (p:=n≤32) (by omega);clear hbig;go_enter Tryz.func60,Tryz.ntmps60;go_wp2;go_loopw [10] (fun y wr=>∃ (k:Nat),y=.int .i64 (k:Int)∧Hid (k≤n)∧Hid (∀ e ∈ X.take k,MayE e)∧Hid (Below w.heap.size w wr)) (fun y _=>n - (intOf y).toNat)
  case atStart=>exact ⟨0,rfl,Za (Nat.zero_le _),Za (fun e he=>by simp at he),Za (Below.refl _ _)⟩
  case round =>
    obtain ⟨k,rfl,HKL,HP,HB⟩:=hrel
    rename World=>wr;by_cases hk:k<n
    · have hki:(k:Int)<(n:Int):=by omega
      have hkw:IntKind.i64.wrap ((k:Int)+1)=(k:Int)+1:=by rw [Zg];have:=HN.out;omega
      have hkx:k<X.length:=by have:=HN.out;omega
      obtain ⟨g0,o0,rfl,hc⟩:=(H.out.below HB.out).at_ hkx
      obtain ⟨x,hx⟩:∃ x,X[k]=x:=⟨_,rfl⟩;rw [hx] at hc;have HX:=Za (p:=X[k]?=some x) (by rw [Zh hkx,hx]);have HSZ:=Za (p:=x.nm.size≤9223372036854775807) (by have:=HNM.out x (Zx HX.out);omega);have HR:=Za (p:=wr.rangeAt g0 (o0+k*5) (ecs x)) (fun i u hu=>hc i u hu);have HK:=Za hk;clear hc hx hkx hk;obtain ⟨z,hz⟩:∃ z,decide (MayE x)=z:=⟨_,rfl⟩;have HZ:=Za hz;cases z
      · clear hz
        go_wp2_with (first
          | (refine wpList_load_mid rfl 61 (.tmp 12) rfl g0 (o0+k*5) rfl (ecs x) _ HR.out Yi rfl (info_ent x) ?_)
          | (refine step_alloc rfl 4 rfl 61 rfl (ecs ent0) zero_ent ?_;intro g4 w2 hr2 hg2 hb2 hs2;have HR2:=Za hr2
             have HB2:=Za hb2;have HG2:=hg2;clear hr2 hg2 hb2 hs2)
          | (refine step_store rfl 61 _ _ rfl g4 rfl 61 (ecs ent0) (ecs x) rfl HR2.out rfl (info_ent x) (ecs_one x) ?_;intro w3 hr3 hg3 hs3;have HR3:=Za hr3
             have HB3:=Za (below_nxt (HB2.out.grown hg3 HB2.out.size (fun q hq=>by injection hq with hq;subst hq;exact Nat.le_of_eq HG2.out.symm)) HB.out);clear hr3 hg3 hs3)
          | (refine step_load rfl 14 rfl 61 (.tmp 4) rfl g4 rfl (ecs x) _ HR3.out.all Yi rfl (info_ent x) ?_)
          | (go_at_call 94;refine (maye_any x w3 HSZ.out (tabs_below HT.out HB3.out)).mono ?_;rintro e w4 ⟨rfl,hb⟩;have HB4:=Za (below_nxt hb HB3.out)
             rw [HZ.out];clear hb))
        go_ret;exact ⟨⟨false,rfl,⟨(fun h=>by cases h),fun h=>absurd (h.2.1 x (Zx HX.out)) (of_decide_eq_false HZ.out)⟩⟩,HB4.out⟩
      · clear hz
        go_wp2_with (first
          | (refine wpList_load_mid rfl 61 (.tmp 12) rfl g0 (o0+k*5) rfl (ecs x) _ HR.out Yi rfl (info_ent x) ?_)
          | (refine step_alloc rfl 4 rfl 61 rfl (ecs ent0) zero_ent ?_;intro g4 w2 hr2 hg2 hb2 hs2;have HR2:=Za hr2
             have HB2:=Za hb2;have HG2:=hg2;clear hr2 hg2 hb2 hs2)
          | (refine step_store rfl 61 _ _ rfl g4 rfl 61 (ecs ent0) (ecs x) rfl HR2.out rfl (info_ent x) (ecs_one x) ?_;intro w3 hr3 hg3 hs3;have HR3:=Za hr3
             have HB3:=Za (below_nxt (HB2.out.grown hg3 HB2.out.size (fun q hq=>by injection hq with hq;subst hq;exact Nat.le_of_eq HG2.out.symm)) HB.out);clear hr3 hg3 hs3)
          | (refine step_load rfl 14 rfl 61 (.tmp 4) rfl g4 rfl (ecs x) _ HR3.out.all Yi rfl (info_ent x) ?_)
          | (go_at_call 94;refine (maye_any x w3 HSZ.out (tabs_below HT.out HB3.out)).mono ?_;rintro e w4 ⟨rfl,hb⟩;have HB4:=Za (below_nxt hb HB3.out)
             rw [HZ.out];clear hb))
        go_roundw
        case rel=>
          refine ⟨k+1,by go_num,Za HK.out,Za (fun e he=>?_),HB4⟩;rw [List.take_add_one,HX.out] at he;rcases List.mem_append.1 he with he | he
          · exact HP.out e he
          · simp at he;subst he;exact of_decide_eq_true HZ.out
        case measure=>have:=HK.out;simp [intOf];omega
    · have hki:¬ (k:Int)<(n:Int):=by omega
      have HALL:=Za (p:=∀ e ∈ X,MayE e) (by
        have h1:=HP.out;rw [Zz (by have:=HN.out;have:=HKL.out;omega)] at h1;exact h1)
      clear hk
      go_wp2_with (first
        | (go_at_call 95;refine (rise_any A n c X HN.out.1 wr (H.out.below HB.out) HN.out.2 HNM.out (tabs_below HT.out HB.out)).mono ?_;rintro e w4 ⟨⟨z,rfl,hz⟩,hb⟩;have HZ:=Za hz
           have HB4:=Za (below_nxt hb HB.out);clear hz hb;cases z)
        | (go_at_call 96;refine (apart_any A n c X HN.out.1 w4 (H.out.below HB4.out) HN.out.2).mono ?_;rintro e w5 ⟨⟨z2,rfl,hz2⟩,hb⟩;have HZ2:=Za hz2
           have HB5:=Za (below_nxt hb HB4.out);clear hz2 hb))
      · go_ret;exact ⟨⟨false,rfl,⟨(fun h=>by cases h),fun h=>absurd (HZ.out.2 h.2.2.1) (by decide)⟩⟩,HB4.out⟩
      · go_ret;exact ⟨⟨z2,rfl,⟨fun h=>⟨by have:=HBG.out;have:=HN.out;omega,HALL.out,HZ.out.1 (by trivial),HZ2.out.1 h⟩,fun h=>HZ2.out.2 h.2.2.2⟩⟩,HB5.out⟩
end Go.Proofs.YtijffkklhgnknaaGreatDoor
/- Package dir:a list's leaves. Conditions:no more than a million entries,names no longer than 2^32,the library's tables lie there. -/
namespace Go.Proofs.YtijffkklhgnknaaGreatDoor
open Go.RowKit
theorem cut_ent (A:Option Addr) (c q n:Nat) (hn:n≤q) (hc:q≤c):
    ∃ A' c',(∀ W:World,(Instr.slice 46 (.slice A q c) (some (.int .i64 n)) none none).run Tryz.prog W=.ok (.slice A' (q - n) c') W)∧q - n≤c'∧∀ (W:World) (X:List Ent),X.length=q→Lies ecs 5 W A X→Lies ecs 5 W A' (X.drop n):=by
  refine ⟨if c=n then A else A.map (·.add (n*5)),c - n,fun W=>?_,by omega,fun W X hX h=>?_⟩
  · have h1:(0:Int)≤(n:Int):=by omega
    have h2:(n:Int)≤(q:Int):=by omega
    rw [run_slice_l (P:=Tryz.prog) W 46 A q c (by kernel_rfl) .i64 n h1 h2];have hs:(sizeOf (Tryz.prog.elem 46)).run Tryz.prog W=.ok 5 W:=by kernel_rfl
    rw [hs];simp [Result.andThen,sliced]
  · by_cases hl:X.length≤n
    · exact .inl (List.drop_eq_nil_of_le hl)
    · rw [if_neg (by omega)];rcases h with rfl | ⟨g,o,rfl,h⟩
      · exact .inl (by simp)
      · refine .inr ⟨g,o+n*5,?_,fun j x hx i u hu=>?_⟩
        · show some ((⟨g,o,none⟩:Addr).add (n*5))=_;unfold Addr.add
          split <;> simp_all
        · rw [List.getElem?_drop] at hx;have:=h (n+j) x hx i u hu;rwa [show o+(n+j)*5+i=o+n*5+j*5+i by omega] at this
theorem run_bsv {P:Program} (t e:TypeId) (hu:P.underlying t=some (.slice e)) (hs:(P.info? e).map (·.size)=some 1) (z:Value) (hz:∀ w,(zeroValue e).run P w=.ok z w) (v:Value) (hv:v.cells=#[v]) (w:World):
    (Instr.buildSlice t 1 #[(0,v)]).run P w=.ok (.slice (some ⟨w.heap.size,0,none⟩) 1 1) (w.alloc (.cells [v].toArray e)):=by
  have hfill:∀ zs:Array Value,zs.size=1→Instr.fill (fun i=>some (i*1,1)) zs [(0,v)]=some [v].toArray:=fun zs hzs=>by
    have h:=fill_partD (place:=fun i=>some (i*1,1)) (A:=[]) (old:=zs.toList) (B:=[]) (vs:=[v]) (i:=0) (off:=0) (n:=1) (v:=v) (rest:=[]) (by simp) (by simpa using hv) rfl rfl (by simpa using hzs);simp only [Zy,Zt,Array.toArray_toList] at h;rw [h];rfl
  cases hq:P.info? e with
  | none=>simp [hq] at hs
  | some i=>
    have hi:i.size=1:=by simpa [hq] using hs
    have hf:=hfill ((Array.range 1).map (z.cells[· % z.cells.size]!)) (by simp);have hsz:∀ w:World,(sizeOf e).run P w=.ok 1 w:=size_ofD hs;have h1:¬ (2 ^ 24<1):=by decide
    clear hq hi;unfold Instr.buildSlice;simp only [Sem.run_bind,run_underlying hu,Zw,hsz,Nat.one_mul,gt_iff_lt,h1,if_false,Sem.run_pure,hz,Sem.run_ite,Nat.one_ne_zero];rw [hf];simp [newRow,go_sem]
theorem step_bsv {P:Program} {ops:Array Oper} {rest:List Oper} {o:Oper} {a:Act} {w:World} {Q:Exit→Act→World→Prop} (hgd:o.guard=none) (t e:TypeId) (x:Operand) (ho:o.op=.buildSlice t 1 #[(0,x)]) (hu:P.underlying t=some (.slice e)) (hs:(P.info? e).map (·.size)=some 1) (z:Value) (hz:∀ w,(zeroValue e).run P w=.ok z w) (v:Value) (hv:v.cells=#[v]) (hx:a.eval x=v)
    (h:∀ g w',Row w' g e [v]→Hid (g=w.heap.size)→Below w.heap.size w w'→wpList P ops Q rest (a.put o.dst (.slice (some ⟨g,0,none⟩) 1 1)) w'):wpList P ops Q (o::rest) a w:=by
  refine wpList_plain hgd fun K hK=>?_;have hr:=run_bsv t e hu hs z hz v hv w;unfold Oper.wp execOp;simp only [ho,hx,List.map_toArray,List.map_cons,List.map_nil,Sem.run_bind,hr,Zw];exact hK _ _ (h _ _ (Row.made w e [v]) (show _=_ from rfl) ((Below.refl _ _).alloc (Zj _) _))
theorem own8_grow {B b:Nat} {w w':World} {A:Option Addr} {n c k:Nat} {e:TypeId} {xs:List Value} {x:BV} (he:5≠e) (hown:w.ownsRow B e k (.slice A n c) n xs) (h:Own8 b w x) (hg:w.grownBy w' (Value.slice A n c).ownBlock):Own8 b w' x:=
  World.ownsRow.kept h hg (own_parted h hown he)
theorem own_cap {w:World} {base:Nat} {e:TypeId} {A:Option Addr} {s n cap:Nat} {xs:List Value} (h:w.ownsRow base e s (.slice A n cap) n xs):n≤cap:=by
  rcases h.2 with ⟨h',h0⟩ | ⟨g',cap',cur,h',_,_,hnc,_⟩
  · omega
  · simp only [Value.slice.injEq] at h';omega
theorem zero_sl (w:World):(zeroValue 23).run Tryz.prog w=.ok (.slice none 0 0) w:=by kernel_rfl
theorem info_sl:(Tryz.prog.info? 23).map (·.size)=some 1:=by kernel_rfl
theorem niceL_may {X:List Ent} (h:MayL X) (hc:∀ e ∈ X,e.ser<18446744073709551616∧e.ck<4294967296):NiceL X:=fun e he=>by
  obtain ⟨h1,h2,h3,h4,h5,_⟩:=h.2.1 e he;obtain ⟨hs,hk⟩:=hc e he
  have hl:e.nm.data.toList.length≤32:=by
    unfold nameR at h1
    split at h1
    · cases h1
    · split at h1
      · split at h1
        · cases h1
        · omega
      · cases h1
  exact ⟨e.ino.toNat,e.kind.toNat,e.nm.data.toList.length,⟨by omega,by omega,by omega,by omega,hs,hk,rfl,by omega⟩,by omega⟩
def Wide (X:List Ent):Prop:=∀ e ∈ X,e.ser<18446744073709551616∧e.ck<4294967296
theorem niceL_enb {X:List Ent} (h:NiceL X):∀ x ∈ X,(enb x).length≤255:=fun x hx=>by
  obtain ⟨i,k,s,hn,hs⟩:=h x hx;rw [enb_len,hn.nm];omega
def slen:Value→Nat
  | .slice _ n _=>n
  | _=>0
open Classical in
noncomputable def lvL (X:List Ent):List (List UInt8):=if MayL X then leaves X else []
open Classical in
noncomputable def lvE (X:List Ent):Int:=if MayL X then 0 else 201
def OwnBs (b:Nat) (w:World) (A:Option Addr) (m c:Nat) (P:List BV):Prop:=
  w.ownsRow b 23 1 (.slice A m c) m (P.flatMap sc)∧P.length=m∧∀ x ∈ P,Own8 b w x
theorem OwnBs.nil (b:Nat) (w:World):OwnBs b w none 0 0 []:=⟨Ye _ _ _ _,rfl,fun x hx=>by cases hx⟩
theorem OwnBs.below {b:Nat} {w w':World} {A:Option Addr} {m c:Nat} {P:List BV} (h:OwnBs b w A m c P) (hb:Below w.heap.size w w'):OwnBs b w' A m c P:=
  ⟨own_kept h.1 hb,h.2.1,fun x hx=>(h.2.2 x hx).below hb⟩
theorem OwnBs.lower {b b':Nat} {w:World} {A:Option Addr} {m c:Nat} {P:List BV} (h:OwnBs b w A m c P) (hb:b'≤b):OwnBs b' w A m c P:=
  ⟨own_lower h.1 hb,h.2.1,fun x hx=>(h.2.2 x hx).lower hb⟩
def LvP (w:World) (L:List (List UInt8)) (er:Int) (e:Ending) (w':World):Prop:=
  ∃ A m c P,e=.returned (.tuple #[.slice A m c,.int .i64 er])∧OwnBs w.heap.size w' A m c P∧P.map (·.l)=L∧m≤32∧Below w.heap.size w w'
theorem leaves_any (A:Option Addr) (n c:Nat) (X:List Ent) (hmax:n≤1000000) (w:World) (h:Lies ecs 5 w A X) (hn:X.length=n) (hcap:n≤c) (hnm:∀ e ∈ X,e.nm.size≤4294967296) (hw:Wide X) (hT:Tabs w):Calls Tryz.prog 24 #[.slice A n c] w (LvP w (lvL X) (lvE X)):=by
  have HM:=Za (fun w h hT=>maybe_dir A n c X hmax w h hn hnm hT);have H:=Za h;have HT:=Za hT;by_cases hmay:MayL X
  · have e1 : lvL X=leaves X:=by unfold lvL;rw [if_pos hmay]
    have e2:lvE X=0:=by unfold lvE;rw [if_pos hmay]
    rw [e1,e2];have HNI:=Za (niceL_may hmay hw);have HN:=Za (And.intro hmax hn);have HC:=Za hcap
    have HM2:=Za (fun w h hT=>(HM.out w h hT).mono (R':=fun e w'=>e=.returned (.bool true)∧Below w.heap.size w w') (by
      rintro e w' ⟨⟨z,rfl,hz⟩,hb⟩;rw [hz.2 hmay];exact ⟨rfl,hb⟩))
    have HN32:=Za (p:=n≤32) (by have:=hmay.1;omega);clear HM h hT hmay e1 e2 hmax hn hcap hnm hw;go_enter Tryz.func24,Tryz.ntmps24
    go_wp2_with (go_at_call 60;refine (HM2.out _ H.out HT.out).mono ?_;rintro e w1 ⟨rfl,hb⟩;have HB1:=Za hb
                 clear hb)
    go_loopw [0,4] (fun x y wr=>∃ (i q d f m c':Nat) (B A':Option Addr) (P:List BV),x=.slice B q d∧y=.slice A' m c'∧Hid (Lies ecs 5 w B (X.drop i))∧Hid ((X.drop i).length=q)∧Hid (q≤d)∧Hid (OwnBs w.heap.size wr A' m c' P)∧Hid (P.map (·.l)++leavesN f (X.drop i)=leaves X)∧Hid (q≤f)∧Hid (m+q≤n)∧Hid (Below w.heap.size w wr)) (fun x _ _=>slen x)
    case atStart=>exact ⟨0,n,c,n,0,0,A,none,[],rfl,rfl,H,Za HN.out.2,HC,Za (OwnBs.nil _ _),Za (by simp only [List.map_nil,Zt,List.drop_zero];unfold leaves;rw [HN.out.2]),Za (Zj _),Za (by omega),HB1⟩
    case round=>
      obtain ⟨i,q,d,f,m,c',B,A',P,rfl,rfl,HL,HQ,HD,HO,HV,HF,HMN,HB⟩:=hrel
      rename World=>wr;by_cases hq:0<q
      · have hqi:(0:Int)<(q:Int):=by omega
        obtain ⟨R,hR⟩:∃ R,X.drop i=R:=⟨_,rfl⟩;rw [hR] at HL HQ HV;have hNR:NiceL R:=fun e he=>HNI.out e (by rw [← hR] at he;exact List.mem_of_mem_drop he);have hRne:R≠[]:=fun h0=>by have:=HQ.out;rw [h0] at this;simp at this;omega
        have HLF:=Za (fun w h=>leaf_any B q d R (by have:=HMN.out;have:=HN.out;omega) w h HQ.out hNR);obtain ⟨f',hf',hf2⟩:=leavesN_step hRne (by rw [HQ.out];exact HF.out) (niceL_enb hNR);have hp:=fitL_pos hRne (niceL_enb hNR);have hle:=fitL_le R 255;unfold LeafP at HLF;obtain ⟨K,hK⟩:∃ K,fitL 255 R=K:=⟨_,rfl⟩;rw [hK] at hf' hf2 hp hle HLF;obtain ⟨lf,hlf⟩:∃ lf,leafB R=lf:=⟨_,rfl⟩;have hlf2:lf.length=256:=by rw [← hlf];exact leafB_len R
        rw [hlf] at hf' HLF;have hKq:K≤q:=by have:=HQ.out;omega
        obtain ⟨B',d',hrun,hd',hcut⟩:=cut_ent B d q K hKq HD.out
        have HV2:=Za (p:=∀ bv:BV,bv.l=lf→(P++[bv]).map (·.l)++leavesN f' (X.drop (i+K))=leaves X) (fun bv hbv=>by
          rw [← HV.out,hf', ← hR,List.drop_drop,List.map_append,Zi];simp [hbv])
        have HQ2:=Za (p:=(X.drop (i+K)).length=q - K) (by rw [← List.drop_drop,hR,Zs,HQ.out]);have HF2:=Za (p:=q - K≤f') (by rw [Zs,HQ.out] at hf2;exact hf2);have HCUT:=Za (p:=∀ W:World,Lies ecs 5 W B R→Lies ecs 5 W B' (X.drop (i+K))) (fun W h=>by have:=hcut W R HQ.out h;rwa [← hR,List.drop_drop] at this);have HD2:=Za hd';have HKP:=Za (And.intro hp hKq);have HBV:=Za (p:=∀ (A1:Option Addr) (c1:Nat),bvv ⟨A1,c1,lf⟩=.slice A1 256 c1) (fun A1 c1=>by unfold bvv;rw [hlf2]);have HLL:=Za hlf2;clear hR hNR hRne hf' hf2 hp hle hK hlf hlf2 hKq hd' hcut hq HV HF
        go_wp2_with (first
          | (go_at_call 61;refine (HLF.out _ (HL.out.below HB.out)).mono ?_;rintro e w2 ⟨A1,c1,rfl,ho,hb⟩;have HO2:=Za (p:=Own8 w.heap.size w2 ⟨A1,c1,lf⟩) (by unfold Own8;rw [HBV.out,HLL.out];exact own_lower ho HB.out.size)
             have HOB2:=Za (HO.out.below hb);have HB2:=Za (below_nxt hb HB.out);clear ho hb)
          | (refine step_bsv rfl 51 23 _ rfl Tryz.underlying51 info_sl _ zero_sl (.slice A1 256 c1) rfl rfl ?_;intro g3 w3 hr3 hg3 hb3;have HR3:=Za hr3
             have HO3:=Za (HO2.out.below hb3);have HOB3:=Za (HOB2.out.below hb3);have HB3:=Za (below_nxt hb3 HB2.out);clear hr3 hg3 hb3)
          | (at_builtin
             refine wp_join rfl _ _ rfl rec_sl w.heap.size (.slice A' m c') m (P.flatMap sc) rfl HOB3.out.1 (some ⟨g3,0,none⟩) 1 1 (sc ⟨A1,c1,lf⟩) rfl rfl (.inr ⟨_,rfl,fun j u hu=>by rw [Addr.add_lit];unfold sc at hu;rw [HBV.out] at hu;exact HR3.out.all j u hu⟩) (sc_one _) (by have:=HMN.out;have:=HN32.out;omega) HB3.out.size ?_;intro v1 w4 ho1 hg1 hat1;have HG4:=Za hg1;have HO4:=Za ho1;obtain ⟨A2,c2,rfl⟩:=own_sl ho1;have HB4:=Za (HB3.out.grown hg1 HB3.out.size (fun k hk=>(HOB3.out.1.lt k hk).1));clear ho1 hg1 hat1))
        go_roundw
        case rel=>
          refine ⟨i+K,q - K,d',f',m+1,c2,B',A2,P++[⟨A1,c1,lf⟩],rfl,rfl,Za (HCUT.out _ HL.out),HQ2,HD2,Za ⟨by rw [flat_snoc];exact HO4.out,by rw [Zf,HOB3.out.2.1];rfl,fun x hx=>?_⟩,Za (HV2.out _ rfl),HF2,Za (by have:=HMN.out;have:=HKP.out;omega),HB4⟩;rcases List.mem_append.1 hx with hx | hx
          · exact own8_grow (by decide) HOB3.out.1 (HOB3.out.2.2 x hx) HG4.out
          · rw [Zr] at hx;subst hx;exact own8_grow (by decide) HOB3.out.1 HO3.out HG4.out
        case measure=>have:=HKP.out;simp [slen];omega
      · have hq0:q=0:=by omega
        have hqi:¬ (0:Int)<(q:Int):=by omega
        have HV2:=Za (p:=P.map (·.l)=leaves X) (by
          have h1:=HV.out;have h2:X.drop i=[]:=Zk (by rw [HQ.out,hq0]);rw [h2,leavesN_nil,Zy] at h1;exact h1)
        clear hq hq0 HV;go_wp2;go_ret2;exact ⟨A',m,c',P,rfl,HO.out,HV2.out,by have:=HMN.out;have:=HN32.out;omega,HB.out⟩
  · have e1 : lvL X=[]:=by unfold lvL;rw [if_neg hmay]
    have e2:lvE X=201:=by unfold lvE;rw [if_neg hmay]
    rw [e1,e2]
    have HM2:=Za (fun w h hT=>(HM.out w h hT).mono (R':=fun e w'=>e=.returned (.bool false)∧Below w.heap.size w w') (by
      rintro e w' ⟨⟨z,rfl,hz⟩,hb⟩;cases z
      · exact ⟨rfl,hb⟩
      · exact absurd (hz.1 rfl) hmay))
    clear HM h hT hmay e1 e2 hmax hn hcap hnm hw;go_enter Tryz.func24,Tryz.ntmps24
    go_wp2_with (go_at_call 60;refine (HM2.out _ H.out HT.out).mono ?_;rintro e w1 ⟨rfl,hb⟩;have HB1:=Za hb
                 clear hb)
    go_ret2;exact ⟨none,0,0,[],rfl,OwnBs.nil _ _,rfl,by omega,HB1.out⟩
end Go.Proofs.YtijffkklhgnknaaGreatDoor
/- What bytes that came in read as. No conditions. -/
namespace Go.Proofs.YtijffkklhgnknaaGreatDoor
open Go.ChangeShapes Go.WideShapes Go.ChangeAt Go.RowKit
structure InB (w:World) (a:Option Addr) (len cap:Nat) (l:List UInt8):Prop where
  len_:len=l.length
  hol:Hol w a l
  cap_:len≤cap
  max_:cap≤maxLen
theorem u8_of {z:Int} (h:(Lit.int .u8 z).wf=true):z=((UInt8.ofNat z.toNat).toNat:Int):=by
  have hb:=bounds_u8 h;have e:(UInt8.ofNat z.toNat).toNat=z.toNat % 256:=UInt8.toNat_ofNat' ..;rw [e];omega
section
variable {H:Type} {enc:TypeId × Value→H} {W:World} {sp:Nat→Bool} {held:Bool} {base:Nat}
theorem bytes_cs {fuel:Nat} {cs:List Value} {x:DataW H × List MemPlace} (hf:DataW.trod enc Tryz.prog W base sp held fuel 23 cs=some x):∃ a len cap l,cs=[.slice a len cap]∧InB W a len cap l:=by
  rcases open_ints Tryz.underlying23 Tryz.underlying5 (by kernel_rfl) hf with ⟨hcs,_⟩ | ⟨x,len,c,zs,hcs,_,hl,hm,hz,_,hcell,hwz⟩
  · exact ⟨none,0,0,[],hcs,rfl,.inl rfl,Zj _,by decide⟩
  · have hzl:len≤zs.length:=by rw [hz];split <;> omega
    refine ⟨some x,len,c,(zs.take len).map fun z=>UInt8.ofNat z.toNat,hcs,by simp;omega,?_,hl,hm⟩;by_cases h0:len=0
    · subst h0;exact .inl rfl
    · have h1:=hcell 0 (by omega);obtain ⟨b,off,spot⟩:=x
      have hs:spot=none:=by
        have:(Addr.add ⟨b,off,spot⟩ 0)=⟨b,off,spot⟩:=by simp [Addr.add]
        rw [this] at h1;exact cell_spot h1
      subst hs;refine .inr ⟨b,off,rfl,fun j y hy=>?_⟩;rw [List.getElem?_map] at hy;obtain ⟨z,hz1,rfl⟩:=Option.map_eq_some_iff.1 hy;rw [List.getElem?_take] at hz1
      split at hz1
      · have hj:=(Zn.1 hz1).1;have h2:=hcell j hj;rw [Addr.add_lit] at h2;rw [h2];have hg:zs.getD j 0=z:=by simp [List.getD,hz1]
        rw [hg];have:=u8_of (hwz z (Zx hz1));rw [← this]
      · cases hz1
theorem bytes_in {a:Option Addr} {len cap:Nat} {d:DataW H} {p:List MemPlace} (h:DataW.Trod enc Tryz.prog W base sp held 23 (.slice a len cap) d p):∃ l,InB W a len cap l:=by
  obtain ⟨fuel,hf⟩:=h;obtain ⟨a',len',cap',l,hcs,hI⟩:=bytes_cs hf;simp [Value.cells] at hcs;obtain ⟨rfl,rfl,rfl⟩:=hcs;exact ⟨l,hI⟩
end
end Go.Proofs.YtijffkklhgnknaaGreatDoor
/- What every statement's frame shares:the listed tables,a world that holds them;what lists of entries that came in read as. No conditions. -/
namespace Go.Proofs.YtijffkklhgnknaaGreatDoor
open Go.ChangeShapes Go.WideShapes Go.ChangeAt Go.RowKit
theorem ownD:ownKnob Tryz.prog.godebug=none:=by kernel_rfl
theorem laidOutD:laidOutB Tryz.prog=true:=by kernel_rfl
theorem u8x:U8Extra Tryz.prog Tryz.lays260_ren:={ n3:=by kernel_rfl,n4:=by kernel_rfl,y3:=by kernel_rfl,y4:=by kernel_rfl,c5:=by kernel_rfl,c119:=by kernel_rfl,c138:=by kernel_rfl }
theorem first_eq:(Rows.laid_unicode_utf8_first:DataW Unit)=Lib.firstData:=by kernel_rfl
theorem accept_eq:(Rows.laid_unicode_utf8_acceptRanges:DataW Unit)=Lib.acceptData:=by kernel_rfl
theorem tabs_of {W:World} (h:laidMetH Tryz.prog Rows.dirFilesRow.laid W):Tabs W:=by
  rw [MakeChecks.laidMetH_plain _ _ _ (by kernel_rfl)] at h;have h1:=Lib.laidMet.reads h (.head _);have h2:=Lib.laidMet.reads h (.tail _ (.head _));rw [accept_eq] at h1;rw [first_eq] at h2;exact utf8Tabs_of_reads Tryz.lays260 u8x h2 h1
def firstCells:Array Value:=((List.range 256).map fun c=>Value.int .u8 (Lib.firstT c)).toArray
def acceptCells:Array Value:=((List.range 16).flatMap fun i=>[Value.int .u8 (Lib.accLo i),Value.int .u8 (Lib.accHi i)]).toArray
def recell (cs:Array Value):Obj→Obj
  | .cells _ t frozen=>.cells cs t frozen
  | o=>o
noncomputable def laidWorld (os:Os):World:=
  { World.holding Tryz.prog os ⟨#[],#[],[]⟩ with heap:=((World.holding Tryz.prog os ⟨#[],#[],[]⟩).heap.modify 1 (recell firstCells)).modify 2 (recell acceptCells) }
theorem laid_met (os:Os) (args:Array Value):laidMet Tryz.prog Rows.dirFilesRow.laid ((laidWorld os).forCall (fun _ _=>0) ⟨#[],args,[]⟩).memory:=
  laidMet_of_run' 8 (by kernel_rfl) (by kernel_rfl)
section
variable {H:Type} {enc:TypeId × Value→H} {W:World} {sp:Nat→Bool} {held:Bool} {base:Nat}
def Sized {H:Type} (t:TypeId) (d:DataW H):Prop:=∀ n ∈ d.weights Tryz.prog t,n≤reachBytes
theorem all_mem {e:TypeId}:∀ {ds:List (DataW H)} {d:DataW H},d ∈ ds→∀ n ∈ d.weights Tryz.prog e,n ∈ DataW.weightsAll Tryz.prog e ds
  | d0::ds,d,h,n,hn=>by
    simp only [DataW.weightsAll,List.mem_append];rcases List.mem_cons.1 h with rfl | h
    · exact .inl hn
    · exact .inr (all_mem h n hn)
theorem slice_sz {t e:TypeId} {fuel:Nat} {cs:List Value} {x:DataW H × List MemPlace} (ht:Tryz.prog.underlying t=some (.slice e)) (hb:1≤Tryz.prog.bytesOf e) (h:DataW.trod enc Tryz.prog W base sp held fuel t cs=some x) (hw:Sized t x.1) {a:Option Addr} {len cap:Nat} (hc:cs=[.slice a len cap]):len≤reachBytes:=by
  rcases Deep.open_slice ht h with ⟨rfl,_⟩ | ⟨a',len',cap',m,n,D,Pl,rfl,_,_,_,_,rfl,_⟩
  · simp at hc;omega
  · simp at hc;obtain ⟨_,rfl,_⟩:=hc;have:=hw ((((List.range len').map D).length+((List.range (m - len')).map fun j=>D (len'+j)).length)*Tryz.prog.bytesOf e) (by simp [DataW.weights,ht]);simp at this;have h2:len'*1≤(len'+(m - len'))*Tryz.prog.bytesOf e:=Nat.mul_le_mul (by omega) hb;omega
theorem struct_sz {t:TypeId} {fs:Array Field} (ht:Tryz.prog.underlying t=some (.struct fs)) {xs:List (DataW H × List MemPlace)} (hw:Sized t (DataW.agg (xs.map (·.1)))) {j:Nat} {f:Field} {x:DataW H × List MemPlace} (hf:fs[j]?=some f) (hx:xs[j]?=some x):Sized f.type x.1:=fun n hn=>hw n (by
  simp only [DataW.weights,ht];exact DataW.weights_mem_each (j:=j) (t:=f.type) (d:=x.1) (by rw [List.getElem?_map,Array.getElem?_toList,hf];rfl) (by rw [List.getElem?_map,hx];rfl) n hn)
theorem list_cs {α:Type} (dflt:α) {f:α→List Value} {k:Nat} {Q:α→Prop} {t e:TypeId} (ht:Tryz.prog.underlying t=some (.slice e)) (hby:1≤Tryz.prog.bytesOf e) (ce:Tryz.prog.cellsOf e=k) (hk:0<k) (hfl:∀ x,(f x).length=k)
    (hel:∀ (fuel:Nat) (cs:List Value) (x:DataW H × List MemPlace),DataW.trod enc Tryz.prog W base sp held fuel e cs=some x→Sized e x.1→∃ d,cs=f d∧Q d)
    {fuel:Nat} {cs:List Value} {x:DataW H × List MemPlace} (hf:DataW.trod enc Tryz.prog W base sp held fuel t cs=some x) (hw:Sized t x.1):
    ∃ (A:Option Addr) (len cap:Nat) (xs:List α),cs=[.slice A len cap]∧len=xs.length∧Lies f k W A xs∧(∀ x ∈ xs,Q x)∧len≤reachBytes∧len≤cap:=by
  have hlen0:=fun (a:Option Addr) (len cap:Nat) (hc:cs=[.slice a len cap])=>slice_sz ht hby hf hw hc;rcases Deep.open_slice ht hf with ⟨hcs,_⟩ | ⟨a,len,cap,m,n,D,Pl,hcs,hb,hl,hm,hmm,hxx,hx⟩
  · exact ⟨none,0,0,[],hcs,rfl,.inl rfl,by simp,Nat.zero_le _,Zj _⟩
  · have hlm:len≤m:=by rw [hmm];split <;> omega
    have each:∀ i,i<len→∃ d:α,(∀ u v,(f d)[u]?=some v→W.cell? (a.add (i*k+u))=some v)∧Q d:=by
      intro i hi;obtain ⟨cs',h1,h2⟩:=hx i (by omega);rw [ce] at h1;obtain ⟨_,hlen,hcell⟩:=World.cells?_some h1
      have hsz:Sized e (D i):=fun n hn=>hw n (by
        rw [hxx];simp only [DataW.weights,ht];refine List.mem_cons_of_mem _ (List.mem_append.2 (.inl (all_mem (d:=D i) ?_ n hn)));exact List.mem_map.2 ⟨i,List.mem_range.2 hi,rfl⟩)
      obtain ⟨d,rfl,hd⟩:=hel _ _ _ h2 hsz;refine ⟨d,fun u v hu=>?_,hd⟩;have hul:=(Zn.1 hu).1;have h3:=hcell u (by rw [hfl] at hul;exact hul);rw [Deep.add_add,hu] at h3;exact h3
    obtain ⟨q,hq⟩:=@Deep.choose_lt α ⟨dflt⟩ _ _ each;refine ⟨some a,len,cap,(List.range len).map q,hcs,by simp,?_,fun x hx=>?_,hlen0 _ _ _ hcs,hl⟩
    · by_cases h0:len=0
      · subst h0;exact .inl rfl
      · obtain ⟨b,off,spot⟩:=a
        have hs:spot=none:=by
          have h1:=(hq 0 (by omega)).1 0 _ (Zh (by rw [hfl];exact hk));have e1:(Addr.add ⟨b,off,spot⟩ (0*k+0))=⟨b,off,spot⟩:=by simp [Addr.add]
          rw [e1] at h1;exact cell_spot h1
        subst hs;refine .inr ⟨b,off,rfl,fun j x hx i u hu=>?_⟩;rw [List.getElem?_map] at hx;obtain ⟨j',hj',rfl⟩:=Option.map_eq_some_iff.1 hx;obtain ⟨hj,rfl⟩:=Zn.1 hj';simp only [List.length_range] at hj;simp only [List.getElem_range] at hu;have h2:=(hq j hj).1 i u hu;rw [Addr.add_lit, ← Nat.add_assoc] at h2;exact h2
    · obtain ⟨j,hj,rfl⟩:=List.mem_map.1 hx;exact (hq j (List.mem_range.1 hj)).2
def EntOk (e:Ent):Prop:=e.nm.size≤reachBytes∧e.ser<18446744073709551616∧e.ck<4294967296∧(-9223372036854775808≤e.ino∧e.ino<9223372036854775808)∧(-9223372036854775808≤e.kind∧e.kind<9223372036854775808)
theorem list4 {α:Type}:∀ {l:List α},l.length=4→∃ a b c d,l=[a,b,c,d]
  | [a,b,c,d],_=>⟨a,b,c,d,rfl⟩
theorem list2 {α:Type}:∀ {l:List α},l.length=2→∃ a b,l=[a,b]
  | [a,b],_=>⟨a,b,rfl⟩
theorem list5 {α:Type}:∀ {l:List α},l.length=5→∃ a b c d e,l=[a,b,c,d,e]
  | [a,b,c,d,e],_=>⟨a,b,c,d,e,rfl⟩
theorem ref_cs {fuel:Nat} {cs:List Value} {x:DataW H × List MemPlace} (hf:DataW.trod enc Tryz.prog W base sp held fuel 36 cs=some x):∃ (i:Int) (s:Nat),cs=[.int .i64 i,.int .u64 (s:Int)]∧s<18446744073709551616∧ -9223372036854775808≤i∧i<9223372036854775808:=by
  have ci:Tryz.prog.cellsOf 3=1:=by kernel_rfl
  have cu:Tryz.prog.cellsOf 34=1:=by kernel_rfl
  have cd:Tryz.prog.cellsOf 36=2:=by kernel_rfl
  obtain ⟨xs,m,_,hx,hl,hlen,hf'⟩:=DataW.trod_struct Tryz.underlying36 hf;obtain ⟨y0,y1,rfl⟩:=list2 hlen;obtain ⟨v0,v1,rfl⟩:=list2 (hl.trans cd);have g0:=hf' 0 _ rfl;have g1:=hf' 1 _ rfl;simp [ci,cu] at g0 g1;obtain ⟨i,e0,_,w0⟩:=DataW.trod_int Tryz.underlying3 g0;obtain ⟨s,e1,_,w1⟩:=DataW.trod_int Tryz.underlying34 g1;have b0:=bounds_i64 w0;have b1:=bounds_u64 w1;simp at e0 e1;subst e0 e1;exact ⟨i,s.toNat,by rw [Int.toNat_of_nonneg (by omega)],by omega,by omega,by omega⟩
theorem ent_cs {fuel:Nat} {cs:List Value} {x:DataW H × List MemPlace} (hf:DataW.trod enc Tryz.prog W base sp held fuel 61 cs=some x) (hw:Sized 61 x.1):∃ e:Ent,cs=ecs e∧EntOk e:=by
  have ci:Tryz.prog.cellsOf 3=1:=by kernel_rfl
  have cs1:Tryz.prog.cellsOf 9=1:=by kernel_rfl
  have c32:Tryz.prog.cellsOf 40=1:=by kernel_rfl
  have cr:Tryz.prog.cellsOf 36=2:=by kernel_rfl
  have cd:Tryz.prog.cellsOf 61=5:=by kernel_rfl
  obtain ⟨xs,m,_,hx,hl,hlen,hf'⟩:=DataW.trod_struct Yi hf;rw [hx] at hw;obtain ⟨y0,y1,y2,y3,rfl⟩:=list4 hlen;obtain ⟨v0,v1,v2,v3,v4,rfl⟩:=list5 (hl.trans cd);have g0:=hf' 0 _ rfl;have g1:=hf' 1 _ rfl;have g2:=hf' 2 _ rfl;have g3:=hf' 3 _ rfl;have s0:=struct_sz Yi (j:=0) hw rfl rfl;simp [ci,cs1,c32,cr] at g0 g1 g2 g3;obtain ⟨nm,e0,hz,hm⟩:=DataW.trod_string Tryz.underlying9 g0;obtain ⟨i,s,e1,h1,h2,h3⟩:=ref_cs g1;obtain ⟨k,e2,_,w2⟩:=DataW.trod_int Tryz.underlying3 g2;obtain ⟨c,e3,_,w3⟩:=DataW.trod_int Tryz.underlying40 g3;have b2:=bounds_i64 w2;have b3:=bounds_u32 w3
  have hnm:nm.size≤reachBytes:=by
    have h5:=s0 nm.data.toList.length (by rw [hz];simp [DataW.weights]);rwa [Array.length_toList] at h5
  simp at e0 e1 e2 e3;subst e0 e2 e3;obtain ⟨rfl,rfl⟩:=e1;have hk: -9223372036854775808≤k∧k<9223372036854775808:=⟨by omega,by omega⟩;have hc:c.toNat<4294967296:=by omega
  refine ⟨⟨nm,i,s,k,c.toNat⟩,?_,hnm,h1,hc,⟨h2,h3⟩,hk⟩;unfold ecs;rw [Int.toNat_of_nonneg (by omega)]
end
theorem EntOk.wide {X:List Ent} (h:∀ e ∈ X,EntOk e):Wide X:=fun e he=>⟨(h e he).2.1,(h e he).2.2.1⟩
end Go.Proofs.YtijffkklhgnknaaGreatDoor
/- A source and a view as they lie;what a source tells;what a view sees. Conditions:those named. -/
namespace Go.Proofs.YtijffkklhgnknaaGreatDoor
open Go.RowKit
theorem below_al (w:World) (o:Obj):Below w.heap.size w (w.alloc o):=(Below.refl _ _).alloc (Zj _) _
def LiesB {α:Type} (f:α→List Value) (k b:Nat) (w:World) (A:Option Addr) (xs:List α):Prop:=Lies f k w A xs∧(xs=[]∨∀ ad,A=some ad→ad.block<b)
def HolB (b:Nat) (w:World) (A:Option Addr) (l:List UInt8):Prop:=Hol w A l∧(l=[]∨∀ ad,A=some ad→ad.block<b)
section
variable {α:Type} {f:α→List Value} {k b:Nat} {w w':World} {A:Option Addr} {xs:List α} {l:List UInt8}
theorem LiesB.keep (h:LiesB f k b w A xs) (hb:Below b w w'):LiesB f k b w' A xs:=by
  refine ⟨?_,h.2⟩;rcases h with ⟨rfl | ⟨g,o,rfl,hc⟩,h2⟩
  · exact .inl rfl
  · rcases h2 with rfl | h2
    · exact .inl rfl
    · exact .inr ⟨g,o,rfl,fun j x hx i u hu=>(hb.cell (p:=⟨g,o+j*k+i,none⟩) (h2 ⟨g,o,none⟩ rfl)).trans (hc j x hx i u hu)⟩
theorem HolB.keep (h:HolB b w A l) (hb:Below b w w'):HolB b w' A l:=by
  refine ⟨?_,h.2⟩;rcases h with ⟨rfl | ⟨g,o,rfl,hc⟩,h2⟩
  · exact .inl rfl
  · rcases h2 with rfl | h2
    · exact .inl rfl
    · exact .inr ⟨g,o,rfl,fun j x hx=>(hb.cell (p:=⟨g,o+j,none⟩) (h2 ⟨g,o,none⟩ rfl)).trans (hc j x hx)⟩
theorem LiesB.mono {b':Nat} (h:LiesB f k b w A xs) (hb:b≤b'):LiesB f k b' w A xs:=⟨h.1,h.2.imp id fun h ad e=>Yc (h ad e) hb⟩
theorem HolB.mono {b':Nat} (h:HolB b w A l) (hb:b≤b'):HolB b' w A l:=⟨h.1,h.2.imp id fun h ad e=>Yc (h ad e) hb⟩
theorem LiesB.all (hk:∀ x,0<(f x).length) (h:Lies f k w A xs):LiesB f k w.heap.size w A xs:=by
  refine ⟨h,?_⟩;rcases h with rfl | ⟨g,o,rfl,hc⟩
  · exact .inl rfl
  · cases xs with
    | nil=>exact .inl rfl
    | cons x t=>
      refine .inr fun ad e=>?_;injection e with e
      subst e;exact Ya w ⟨g,o+0*k+0,none⟩ (hc 0 x rfl 0 _ (Zh (hk x)))
theorem HolB.all (h:Hol w A l):HolB w.heap.size w A l:=by
  refine ⟨h,?_⟩;rcases h with rfl | ⟨g,o,rfl,hc⟩
  · exact .inl rfl
  · cases l with
    | nil=>exact .inl rfl
    | cons x t=>
      refine .inr fun ad e=>?_;injection e with e
      subst e;exact Ya w ⟨g,o+0,none⟩ (hc 0 x rfl)
end
structure Src (b:Nat) (w:World) (gs:Nat) (Bs:List BV):Prop where
  lt:gs<b
  c0:∃ A c,w.cell? ⟨gs,0,none⟩=some (.slice A Bs.length c)∧LiesB sc 1 b w A Bs
  hol:∀ x ∈ Bs,HolB b w x.A x.l
  len:∀ x ∈ Bs,x.l.length=256
  lim:Bs.length≤300
def srcF (Bs:List BV) (a:Int):Option BV:=if 0≤a then Bs[a.toNat]? else none
theorem Src.keep {b:Nat} {w w':World} {gs:Nat} {Bs:List BV} (h:Src b w gs Bs) (hb:Below b w w'):Src b w' gs Bs:=by
  obtain ⟨A,c,h1,h2⟩:=h.c0;exact ⟨h.lt,⟨A,c,(hb.cell (p:=⟨gs,0,none⟩) h.lt).trans h1,h2.keep hb⟩,fun x hx=>(h.hol x hx).keep hb,h.len,h.lim⟩
theorem Src.mono {b b':Nat} {w:World} {gs:Nat} {Bs:List BV} (h:Src b w gs Bs) (hb:b≤b'):Src b' w gs Bs:=by
  obtain ⟨A,c,h1,h2⟩:=h.c0;exact ⟨Yc h.lt hb,⟨A,c,h1,h2.mono hb⟩,fun x hx=>(h.hol x hx).mono hb,h.len,h.lim⟩
theorem src_neg {Bs:List BV} {a:Int} (h:a<0):srcF Bs a=none:=if_neg (by omega)
theorem src_nat {Bs:List BV} {a:Nat}:srcF Bs (a:Int)=Bs[a]?:=by
  unfold srcF;rw [Yf,if_pos (by omega)]
theorem src_mem {Bs:List BV} {a:Int} {x:BV} (h:srcF Bs a=some x):x ∈ Bs:=by
  unfold srcF at h
  split at h
  · exact Zx h
  · cases h
theorem get_any {b:Nat} {w:World} {gs:Nat} {Bs:List BV} (h:Src b w gs Bs) (a:Int):
    Calls Tryz.prog 7 #[.pointer (some ⟨gs,0,none⟩),.int .i64 a] w fun e w'=>e=.returned (.tuple #[bvo (srcF Bs a),.bool (srcF Bs a).isSome])∧w=w':=by
  obtain ⟨A,c,h0,hA⟩:=h.c0;obtain ⟨n,hn⟩:∃ n,Bs.length=n:=⟨_,rfl⟩;have hlim:n≤300:=by rw [← hn];exact h.lim
  rw [hn] at h0;by_cases ha:a<0
  · rw [src_neg ha];clear hA h;go_enter Tryz.func7,Tryz.ntmps7;go_wp2;go_ret2;exact ⟨rfl,rfl⟩
  · obtain ⟨m,rfl⟩:=Int.eq_ofNat_of_zero_le (by omega:0≤a);by_cases hm:m<n
    · have hmi:(m:Int)<(n:Int):=by omega
      have hmi2:¬ (n:Int)≤(m:Int):=by omega
      obtain ⟨g,o,rfl,hc⟩:=hA.1.at_ (j:=m) (by omega);have cx:=hc 0 _ rfl;obtain ⟨x,hx⟩:∃ x,Bs[m]'(by omega)=x:=⟨_,rfl⟩;rw [hx] at cx;have hxs:Bs[m]?=some x:=by rw [← hx];exact Zh _
      clear hx hc hA h;simp only [Nat.mul_one,Nat.add_zero] at cx;unfold bvv at cx;rw [src_nat,hxs];clear hxs ha hm;go_enter Tryz.func7,Tryz.ntmps7;go_wp2;go_ret2;exact ⟨rfl,rfl⟩
    · have hmi2:(n:Int)≤(m:Int):=by omega
      rw [src_nat,List.getElem?_eq_none (by omega)];clear hA h ha hm;go_enter Tryz.func7,Tryz.ntmps7;go_wp2;go_ret2;exact ⟨rfl,rfl⟩
theorem clone8 (x:BV) (w:World) (hx:Hol w x.A x.l) (hl:x.l.length≤131072):
    Calls Tryz.prog 108 #[.slice x.A x.l.length x.c] w fun e w'=>∃ y:BV,e=.returned (.slice y.A y.l.length y.c)∧Hid (y.l=x.l)∧Hid (Own8 w.heap.size w' y)∧Hid (Below w.heap.size w w'):=by
  obtain ⟨i,U⟩:=u8_tab;have hnil:∀ (w:World) (a:Option Addr) (n c:Nat),(binOp .eql 23 (.slice a n c) (.slice none 0 0)).run Tryz.prog w=.ok (.bool a.isNone) w:=fun w a n c=>Lib.run_eql_slice_nil w _ _ a n c 0 0 Tryz.underlying23;obtain ⟨A,c,l⟩:=x;have HL:=Za hl;have HH:=Za hx
  cases A with
  | none=>
    have h0:l=[]:=by
      rcases hx with h | ⟨g,o,h,_⟩
      · exact h
      · cases h
    subst h0;clear hx hl;go_enter Tryz.func108,Tryz.ntmps108;go_wp2;go_ret;exact ⟨noBV,rfl,Za rfl,Za (Own8.none_ _ _),Za (Below.refl _ _)⟩
  | some ad=>
    clear hx hl;go_enter Tryz.func108,Tryz.ntmps108
    go_wp2_with (first
      | (at_builtin;refine wpList_app _ rfl _ _ _ rfl 5 i U w.heap.size (.slice (some ⟨w.heap.size,0,none⟩) 0 0) 0 [] rfl (void_own w _ 1 _ (Zj _)) _ l.length c l rfl rfl (HH.out.below ((Below.refl _ _).alloc (Zj _) _)) (by have h9:l.length≤131072:=HL.out;omega) (by simp) ?_
         intro v2' w2 hown2 hg2 hat2;rw [Zt,Nat.zero_add] at hown2;obtain ⟨Ax,cx,rfl⟩:=own_sl hown2;have hb2:Below w.heap.size w w2:=((Below.refl _ _).alloc (Zj _) _).grown hg2 (by simp) (fun q hq=>by have h0:some w.heap.size=some q:=hq;injection h0 with h0;omega);have HX2:=Za hown2;have HB2:=Za hb2;clear hown2 hg2 hat2 hb2))
    go_ret;exact ⟨⟨Ax,cx,l⟩,rfl,Za rfl,HX2,HB2⟩
end Go.Proofs.YtijffkklhgnknaaGreatDoor
